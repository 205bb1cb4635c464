/-
  Whatever two builds of two nodes do at once, on each level keys rise, at each step: the law BuildRises is true for every input.
  Conditions: the package variable of handle that the code reads starts as the program's text lays it (the card ties it to that text).
-/
import Derived.Test.YtkjjieklccbmoaaDoorBRises
import Derived.Test.YtkjjieklccbmoaaDoorHLaid
import Derived.Test.YtkjjieklccbmoaaDoorPArgs
import Derived.Deep.CutRange
import Derived.ProofKit
import Derived.SizedLaws
import Derived.Carry
namespace Go.Proofs.YtkjjieklccbmoaaDoor
open Go.ChangeShapes Go.WideShapes Go.ChangeAt Go.RowKit
open Go.Deep
open Go.Proofs.YtkjjieklccbmoaaDoor.K
set_option maxRecDepth 100000

namespace K
section
variable {w : World} {H : Type} {enc : TypeId × Value → H}
def boC (x : Bool) : List Value := [.bool x]
theorem flat_bo : flat Tryd.prog 3 4 = some [.bool] := by kernel_rfl
theorem cells_bo : Tryd.prog.cellsOf 4 = 1 := by kernel_rfl
theorem bo_cells {cs : List Value} (h : F2 [.bool] cs) : ∃ p : Bool, cs = boC p ∧ True := by
  obtain ⟨a0, r, rfl, h2⟩ := F2_bool h
  obtain rfl := F2_nil h2
  exact ⟨a0, rfl, trivial⟩
theorem bo_row {w : World} {ao : Option Addr} {ts : List Bool} (h : SlOf 1 boC w ao ts) {k : Nat} (hk : k < ts.length) : ∃ b off, ao = some ⟨b, off, none⟩ ∧ b < w.heap.size ∧ w.cell? ⟨b, off + k, none⟩ = some (.bool (ts.getD k false)) := by
  obtain ⟨b, off, rfl, hb, hc⟩ := h (by omega)
  have e : ts.getD k false = ts[k] := by simp [hk]
  rw [e]
  have := hc k hk 0 _ rfl
  rw [Nat.mul_one, Nat.add_zero] at this
  exact ⟨b, off, rfl, hb, this⟩
theorem open_turns13 {r : Reach} {b0 : Nat} {v : Value} {d : DataW H} {p : List MemPlace} (hv : Value.okWide Tryd.prog w r b0 50 v) (h : DataW.Trod enc Tryd.prog w 0 (fun _ => true) true 50 v d p) :
    ∃ (a b : Int) (ao : Option Addr) (cap : Nat) (ts : List Bool), v = .agg #[.int .i64 a, .int .i64 b, .slice ao (List.length ts) cap] ∧ SlOf 1 boC w ao ts := by
  obtain ⟨cs, rfl, hsz⟩ := okWide_struct Tryd.underlying50 hv
  obtain ⟨fuel, h⟩ := h
  have h' : DataW.trod enc Tryd.prog w 0 (fun _ => true) true fuel 50 cs.toList = some (d, p) := by simpa [Value.cells] using h
  obtain ⟨xs, m, _, _, hlen, hxl, hx⟩ := DataW.trod_struct Tryd.underlying50 h'
  have cc : Tryd.prog.cellsOf 50 = 3 := by kernel_rfl
  have w0 : Tryd.prog.cellsOf 3 = 1 := by kernel_rfl
  have w1 : Tryd.prog.cellsOf 48 = 1 := by kernel_rfl
  rw [cc] at hlen
  have hxl3 : xs.length = 3 := hxl
  have x0 := hx 0 _ rfl
  have x1 := hx 1 _ rfl
  have x2 := hx 2 _ rfl
  rw [List.getElem?_eq_getElem (by omega)] at x0 x1 x2
  obtain ⟨a, e0, b0⟩ := DataW.trod_int Tryd.underlying3 x0
  obtain ⟨b, e1, b1⟩ := DataW.trod_int Tryd.underlying3 x1
  obtain ⟨ao, cap, ks, e2, S, G⟩ := open_slice_cells true (ks := [.bool]) boC (fun _ => True) Tryd.underlying48 flat_bo cells_bo (by decide) (fun cs hF => bo_cells hF) x2
  change List.take (Tryd.prog.cellsOf 3) (List.drop 0 cs.toList) = _ at e0
  change List.take (Tryd.prog.cellsOf 3) (List.drop 1 cs.toList) = _ at e1
  change List.take (Tryd.prog.cellsOf 48) (List.drop 2 cs.toList) = _ at e2
  rw [w0] at e0
  rw [w0] at e1
  rw [w1] at e2
  refine ⟨a, b, ao, cap, ks, ?_, S⟩
  · match hcs : cs.toList, hlen with
    | [a1, b1, d1], _ =>
      rw [hcs] at e0 e1 e2
      simp at e0 e1 e2
      subst e0 e1 e2
      rw [show cs = cs.toList.toArray by simp, hcs]
end
/-- A node of that key, on one level. -/
def bare (x : Nn) : Nn := ⟨x.k, 0, 1, 0, false⟩
theorem NRow.set1 {w : World} {g : Nat} {ns : List Nn} {k : Nat} {y : Nn} (h : NRow w g (ns.set k y)) (hk : k < ns.length) (x : Nn) (o : Nat) (v : Value) (ho : o < 5) (hx : ∀ j, j < 5 → (nnL x)[j]? = if j = o then some v else (nnL y)[j]?) : NRow (w.setCell ⟨g, k * 5 + o, none⟩ v) g (ns.set k x) := by
  have z := h.set (k := k) (by simpa using hk) x o v ho (by rw [getD_put _ _ _ _ _ hk, if_pos rfl]; exact hx)
  rwa [List.set_set] at z
def put5 (w : World) (g k : Nat) (x : Nn) : World := ((((w.setCell ⟨g, k * 5, none⟩ (.int .u64 x.k)).setCell ⟨g, k * 5 + 1, none⟩ (.int .u64 0)).setCell ⟨g, k * 5 + 2, none⟩ (.int .i64 1)).setCell ⟨g, k * 5 + 3, none⟩ (.int .i64 0)).setCell ⟨g, k * 5 + 4, none⟩ (.bool false)
theorem NRow.put5 {w : World} {g : Nat} {ns : List Nn} {k : Nat} (h : NRow w g ns) (hk : k < ns.length) (x : Nn) : NRow (put5 w g k x) g (ns.set k (bare x)) := by
  obtain ⟨y, hy⟩ : ∃ y, y = ns.getD k nn0 := ⟨_, rfl⟩
  have h0 : NRow w g (ns.set k y) := by
    have e : ns.set k y = ns := by
      rw [hy, show ns.getD k nn0 = ns[k] by simp [hk]]; exact List.set_getElem_self hk
    rw [e]; exact h
  have five : ∀ {j : Nat}, j < 5 → j = 0 ∨ j = 1 ∨ j = 2 ∨ j = 3 ∨ j = 4 := by omega
  have z1 := h0.set1 hk ⟨x.k, y.v, y.t, y.m, y.d⟩ 0 (.int .u64 x.k) (by omega) (fun j hj => by rcases five hj with e | e | e | e | e <;> subst e <;> rfl)
  have z2 := z1.set1 hk ⟨x.k, 0, y.t, y.m, y.d⟩ 1 (.int .u64 0) (by omega) (fun j hj => by rcases five hj with e | e | e | e | e <;> subst e <;> rfl)
  have z3 := z2.set1 hk ⟨x.k, 0, 1, y.m, y.d⟩ 2 (.int .i64 1) (by omega) (fun j hj => by rcases five hj with e | e | e | e | e <;> subst e <;> rfl)
  have z4 := z3.set1 hk ⟨x.k, 0, 1, 0, y.d⟩ 3 (.int .i64 0) (by omega) (fun j hj => by rcases five hj with e | e | e | e | e <;> subst e <;> rfl)
  exact z4.set1 hk ⟨x.k, 0, 1, 0, false⟩ 4 (.bool false) (by omega) (fun j hj => by rcases five hj with e | e | e | e | e <;> subst e <;> rfl)
theorem kept_put5 {w w' : World} {g : Nat} (h : Kept [g] w w') (k : Nat) (x : Nn) : Kept [g] w (K.put5 w' g k x) :=
  ((((h.setCell (p := ⟨g, k * 5, none⟩) (Or.inl (by simp)) _).setCell (p := ⟨g, k * 5 + 1, none⟩) (Or.inl (by simp)) _).setCell (p := ⟨g, k * 5 + 2, none⟩) (Or.inl (by simp)) _).setCell (p := ⟨g, k * 5 + 3, none⟩) (Or.inl (by simp)) _).setCell (p := ⟨g, k * 5 + 4, none⟩) (Or.inl (by simp)) _
theorem RightN.bare {c : Cfg} {ns : List Nn} {k : Nat} (h : RightN c ns) (hk : k < ns.length) : RightN c (ns.set k (bare (ns.getD k nn0))) := by
  have R := riB_true.1 h.r
  have h0 := R.h0
  refine ⟨h.r, by simp; exact h.n, fun i hi => ?_, fun i hi => ?_⟩
  · simp at hi
    rw [getD_put _ _ _ _ _ hk]
    split
    · exact ⟨by show (1 : Int) ≤ 1; omega, h0, by show (0 : Int) ≤ 0; omega, by show (0 : Int) ≤ 1; omega, fun z => absurd z (by show ¬ (0 : Int) < 0; omega), by show (0 : Int) < 9223372036854775808; omega⟩
    · exact h.b i hi
  · simp at hi
    have z := h.up i hi
    have e : ∀ j, ((ns.set k (K.bare (ns.getD k nn0))).getD j nn0).k = (ns.getD j nn0).k := fun j => by
      rw [getD_put _ _ _ _ _ hk]; split
      · rename_i q; rw [q]; rfl
      · rfl
    rw [e, e]; exact z
theorem wf_bare {ns : List Nn} {k : Nat} (hw : ∀ x ∈ ns, x.wf) (hk : k < ns.length) : ∀ x ∈ ns.set k (bare (ns.getD k nn0)), x.wf := by
  intro x hx
  rcases List.mem_or_eq_of_mem_set hx with hx | rfl
  · exact hw x hx
  · have e : ns.getD k nn0 = ns[k] := by simp [hk]
    have z : (ns.getD k nn0).wf := by rw [e]; exact hw _ (List.getElem_mem _)
    exact ⟨z.1, by show (0 : Int) ≤ 0; omega, by show (0 : Int) < 18446744073709551616; omega⟩
theorem Lst.lt {n : Nat} {P Q : Nat → Prop} {js : List Nat} (h : Lst n P Q js) {i j : Nat} (hij : i < j) (hj : j < js.length) : js.getD i 0 < js.getD j 0 := by
  have z := List.pairwise_iff_getElem.1 h.up i j (by omega) hj hij
  have e1 : js.getD i 0 = js[i] := by simp [show i < js.length by omega]
  have e2 : js.getD j 0 = js[j] := by simp [hj]
  rw [e1, e2]; exact z
end K
set_option maxRecDepth 100000 in
set_option maxHeartbeats 8000000 in
theorem buildRises_walk (w : World) (c : Cfg) (_hg : c.wf) (ao : Option Addr) (ns : List Nn) (cap : Nat) (hs : SlOf 5 nnL w ao ns) (hw : ∀ x ∈ ns, x.wf) (hc : ao = none → cap = 0) (az bz : Int) (lo : Option Addr) (ts : List Bool) (lc : Nat) (hts : SlOf 1 boC w lo ts) (hT : Tab w) :
    Calls Tryd.prog 6 #[c.val, .slice ao ns.length cap, .agg #[.int .i64 az, .int .i64 bz, .slice lo ts.length lc]] w fun e w' => e = .returned (.bool true) ∧ Kept [] w w' := by
  simp only [Cfg.val]
  obtain ⟨n, hn⟩ : ∃ n, n = ns.length := ⟨_, rfl⟩
  rw [← hn]
  have HNN := hidOf hn
  have HS := hidOf hs
  have HW := hidOf hw
  have HCP := hidOf hc
  have HT := hidOf hT
  clear hn hs hw hT hc
  obtain ⟨tn, htn⟩ : ∃ tn, tn = ts.length := ⟨_, rfl⟩
  rw [← htn]
  have HTN := hidOf htn
  have HTS := hidOf hts
  clear htn hts
  obtain ⟨q, hq⟩ : ∃ q, q = w.heap.size := ⟨_, rfl⟩
  have BX : Hid (RW 23 ((w.alloc (.cells #[.int .i64 c.t, .int .i64 c.s, .int .i64 c.c, .int .i64 c.h, .int .i64 c.k, .int .i64 c.e, .int .i64 c.l] 23)).alloc (.cells #[.int .i64 az, .int .i64 bz, .slice lo tn lc] 50)) q #[.int .i64 c.t, .int .i64 c.s, .int .i64 c.c, .int .i64 c.h, .int .i64 c.k, .int .i64 c.e, .int .i64 c.l] ∧ RW 50 ((w.alloc (.cells #[.int .i64 c.t, .int .i64 c.s, .int .i64 c.c, .int .i64 c.h, .int .i64 c.k, .int .i64 c.e, .int .i64 c.l] 23)).alloc (.cells #[.int .i64 az, .int .i64 bz, .slice lo tn lc] 50)) (q + 1) #[.int .i64 az, .int .i64 bz, .slice lo tn lc] ∧ Kept [] w ((w.alloc (.cells #[.int .i64 c.t, .int .i64 c.s, .int .i64 c.c, .int .i64 c.h, .int .i64 c.k, .int .i64 c.e, .int .i64 c.l] 23)).alloc (.cells #[.int .i64 az, .int .i64 bz, .slice lo tn lc] 50))) := by
    have z := two_new 23 50 w #[.int .i64 c.t, .int .i64 c.s, .int .i64 c.c, .int .i64 c.h, .int .i64 c.k, .int .i64 c.e, .int .i64 c.l] #[.int .i64 az, .int .i64 bz, .slice lo tn lc] hq
    exact ⟨z.1, z.2.1, z.2.2⟩
  go_enter Tryd.func6, Tryd.ntmps6
  go_upto_region 1 with (fail)
  rw [← hq]
  refine gen_world (fun W => RW 23 W q #[.int .i64 c.t, .int .i64 c.s, .int .i64 c.c, .int .i64 c.h, .int .i64 c.k, .int .i64 c.e, .int .i64 c.l] ∧ RW 50 W (q + 1) #[.int .i64 az, .int .i64 bz, .slice lo tn lc] ∧ Kept [] w W) BX.out ?_
  have hqw : w.heap.size ≤ q := by omega
  clear BX hq
  rintro U ⟨CB0, CB1, K0⟩
  have HX0 := hidOf (And.intro CB0 (And.intro CB1 K0))
  have z0 := cell_of_blk CB1 (i := 0) (v := .int .i64 az) rfl
  have z1 := cell_of_blk CB1 (i := 1) (v := .int .i64 bz) rfl
  clear CB0 CB1 K0
  go_region
  go_upto_region 2 with (fail)
  refine gen_world (fun W => RW 23 W q #[.int .i64 c.t, .int .i64 c.s, .int .i64 c.c, .int .i64 c.h, .int .i64 c.k, .int .i64 c.e, .int .i64 c.l] ∧ RW 50 W (q + 1) #[.int .i64 az, .int .i64 bz, .slice lo tn lc] ∧ Kept [] w W) ?_ ?_
  · first | exact ⟨HX0.out.1.kept (Kept.refl [] _).drew (by simp), HX0.out.2.1.kept (Kept.refl [] _).drew (by simp), HX0.out.2.2.trans (Kept.refl _ _).drew⟩ | exact ⟨HX0.out.1, HX0.out.2.1, HX0.out.2.2⟩
  clear z0 z1 HX0
  rintro W ⟨CB0, CB1, K0⟩
  have HX := hidOf (And.intro CB0 K0)
  have HTU := hidOf CB1
  clear CB0 CB1 K0
  go_wp2_with (first | ((with_reducible change wpList _ _ _ (Oper.mk _ (Op.load 23 (Operand.tmp 3)) _ _ _ _ :: _) _ _); refine wpList_load_rw 23 isT_cf rfl (.tmp 3) rfl q rfl #[.int .i64 c.t, .int .i64 c.s, .int .i64 c.c, .int .i64 c.h, .int .i64 c.k, .int .i64 c.e, .int .i64 c.l] rfl HX.out.1 ?_))
  refine (right11_any c ns ao n cap W (HS.out.new HX.out.2) HNN.out).mono ?_
  rintro e w1 ⟨B, rfl, hB, K1⟩
  have HX1 := hidOf (And.intro (HX.out.1.kept K1 (by simp)) (HX.out.2.trans K1))
  have HTU1 := hidOf (HTU.out.kept K1 (by simp))
  clear HX K1 HTU
  have HX := HX1
  have HTU := HTU1
  clear HX1 HTU1
  cases B with
  | false =>
    have AL := hidOf (alive_any _ (HT.out.kept (HX.out.2)))
    have KF := hidOf (HX.out.2)
    go_wp2_with fail
    refine AL.out.mono ?_
    rintro e WA ⟨rfl, KA⟩
    have KG := hidOf (KF.out.trans KA)
    clear KA
    go_wp2
    go_ret
    exact ⟨rfl, KG.out⟩
  | true =>
    have HR0 := hidOf (hB.1 rfl)
    clear hB
    by_cases hk0 : az < 0
    · have hk0b : decide (az < 0) = true := by simpa using hk0
      have AL := hidOf (alive_any _ (HT.out.kept (HX.out.2)))
      have KF := hidOf (HX.out.2)
      go_wp2_with fail
      refine AL.out.mono ?_
      rintro e WA ⟨rfl, KA⟩
      have KG := hidOf (KF.out.trans KA)
      clear KA
      go_wp2
      go_ret
      exact ⟨rfl, KG.out⟩
    have hk0b : decide (az < 0) = false := by simpa using hk0
    by_cases hk1 : (n : Int) ≤ az
    · have hk1b : decide ((n : Int) ≤ az) = true := by simpa using hk1
      have AL := hidOf (alive_any _ (HT.out.kept (HX.out.2)))
      have KF := hidOf (HX.out.2)
      go_wp2_with fail
      refine AL.out.mono ?_
      rintro e WA ⟨rfl, KA⟩
      have KG := hidOf (KF.out.trans KA)
      clear KA
      go_wp2
      go_ret
      exact ⟨rfl, KG.out⟩
    have hk1b : decide ((n : Int) ≤ az) = false := by simpa using hk1
    by_cases hk2 : bz < 0
    · have hk2b : decide (bz < 0) = true := by simpa using hk2
      have AL := hidOf (alive_any _ (HT.out.kept (HX.out.2)))
      have KF := hidOf (HX.out.2)
      go_wp2_with fail
      refine AL.out.mono ?_
      rintro e WA ⟨rfl, KA⟩
      have KG := hidOf (KF.out.trans KA)
      clear KA
      go_wp2
      go_ret
      exact ⟨rfl, KG.out⟩
    have hk2b : decide (bz < 0) = false := by simpa using hk2
    by_cases hk3 : (n : Int) ≤ bz
    · have hk3b : decide ((n : Int) ≤ bz) = true := by simpa using hk3
      have AL := hidOf (alive_any _ (HT.out.kept (HX.out.2)))
      have KF := hidOf (HX.out.2)
      go_wp2_with fail
      refine AL.out.mono ?_
      rintro e WA ⟨rfl, KA⟩
      have KG := hidOf (KF.out.trans KA)
      clear KA
      go_wp2
      go_ret
      exact ⟨rfl, KG.out⟩
    have hk3b : decide ((n : Int) ≤ bz) = false := by simpa using hk3
    by_cases hk4 : az = bz
    · subst hk4
      have AL := hidOf (alive_any _ (HT.out.kept (HX.out.2)))
      have KF := hidOf (HX.out.2)
      go_wp2_with fail
      refine AL.out.mono ?_
      rintro e WA ⟨rfl, KA⟩
      have KG := hidOf (KF.out.trans KA)
      clear KA
      go_wp2
      go_ret
      exact ⟨rfl, KG.out⟩
    have zl := cell_of_blk HTU.out (i := 2) (v := .slice lo tn lc) rfl
    by_cases hk5 : (200 : Int) < tn
    · have hk5b : decide ((200 : Int) < tn) = true := by simp; omega
      have hk5c : decide (200 < tn) = true := by simp; omega
      have AL := hidOf (alive_any _ (HT.out.kept (HX.out.2)))
      have KF := hidOf (HX.out.2)
      go_wp2_with fail
      refine AL.out.mono ?_
      rintro e WA ⟨rfl, KA⟩
      have KG := hidOf (KF.out.trans KA)
      clear KA
      go_wp2
      go_ret
      exact ⟨rfl, KG.out⟩
    have hk5b : decide ((200 : Int) < tn) = false := by simp; omega
    have hk5c : decide (200 < tn) = false := by simp; omega
    obtain ⟨k, rfl⟩ : ∃ k : Nat, az = k := ⟨az.toNat, by omega⟩
    obtain ⟨k2, rfl⟩ : ∃ k : Nat, bz = k := ⟨bz.toNat, by omega⟩
    have RR0 := hidOf (riB_true.1 HR0.out.r)
    have n64 : (n : Int) ≤ 64 := by have := HR0.out.n; have := HNN.out; have := RR0.out.c1; omega
    have hkn : (k : Int) < n := by omega
    have hknl : k < n := by omega
    have hk2n : (k2 : Int) < n := by omega
    have hk2nl : k2 < n := by omega
    have hne : ¬ k = k2 := by omega
    have hkb1 : decide (n ≤ k) = false := by simp; omega
    have hkb2 : decide (n ≤ k2) = false := by simp; omega
    have hkb3 : decide (k = k2) = false := by simp; omega
    have HK0 := hidOf (show k < ns.length ∧ k2 < ns.length by have := HNN.out; omega)
    obtain ⟨g, c', w2, hap, hg, NR0, K2⟩ := append_nn 24 w1 ns ao n cap HNN.out (HS.out.new HX.out.2) HCP.out (by have := HNN.out; omega)
    have RW1 : Hid (∀ (j : Nat), j < ns.length → ∃ b1 o1, ao = some ⟨b1, o1, none⟩ ∧ ∀ Y, Kept [] w1 Y → (Y.cell? ⟨b1, o1 + j * 5, none⟩ = some (.int .u64 (ns.getD j nn0).k) ∧ Y.cell? ⟨b1, o1 + j * 5 + 2, none⟩ = some (.int .i64 (ns.getD j nn0).t)) ∧ b1 < Y.heap.size) := hidOf (fun j hj => by
      obtain ⟨b1, o1, ea, -⟩ := nn_row (HS.out.new HX.out.2) hj
      refine ⟨b1, o1, ea, fun Y kk => ?_⟩
      obtain ⟨b, o, e, l, y0, _, y2, y3, y4⟩ := nn_row (HS.out.new (HX.out.2.trans kk)) hj
      rw [ea] at e
      cases e
      exact ⟨⟨y0, y2⟩, l⟩)
    obtain ⟨b1, o1, ea, R1⟩ := RW1.out k HK0.out.1
    obtain ⟨b2, o2, ea2, R2⟩ := RW1.out k2 HK0.out.2
    rw [ea] at ea2
    cases ea2
    subst ea
    have HR1 := hidOf R1
    have HR2 := hidOf R2
    have HRW := RW1
    clear R1 R2 RW1
    obtain ⟨xa, hxa⟩ : ∃ x, x = ns.getD k nn0 := ⟨_, rfl⟩
    obtain ⟨xb, hxb⟩ : ∃ x, x = ns.getD k2 nn0 := ⟨_, rfl⟩
    rw [← hxa] at HR1
    rw [← hxb] at HR2
    have HXA := hidOf (And.intro hxa hxb)
    clear hxa hxb
    have l1 := (HR1.out w2 K2).1.1
    have l2 := (HR2.out w2 K2).1.1
    have l3 := (HR2.out w2 K2).2
    have HNR := hidOf NR0
    have HK2 := hidOf K2
    have HHG := hidOf hg
    obtain ⟨A, zA, qA⟩ := NR0
    have a0 := cell_of_blk zA (qA k HK0.out.1).1
    have a1 := cell_of_blk zA (qA k HK0.out.1).2.1
    have a2 := cell_of_blk zA (qA k HK0.out.1).2.2.1
    have a3 := cell_of_blk zA (qA k HK0.out.1).2.2.2.1
    have a4 := cell_of_blk zA (qA k HK0.out.1).2.2.2.2
    have c0 := cell_of_blk zA (qA k2 HK0.out.2).1
    have c1 := cell_of_blk zA (qA k2 HK0.out.2).2.1
    have c2 := cell_of_blk zA (qA k2 HK0.out.2).2.2.1
    have c3 := cell_of_blk zA (qA k2 HK0.out.2).2.2.2.1
    have c4 := cell_of_blk zA (qA k2 HK0.out.2).2.2.2.2
    have nf := free_of_blk zA
    have nl := lt_of_blk zA
    have gne : ¬ b1 = g := by have := lt_of_cell l1; have := (HR1.out w1 (Kept.refl _ _)).2; omega
    clear zA qA hg K2
    go_upto_region 4 with (first | (at_builtin; refine wpList_append_run rfl (.tmp 61) (.tmp 62) 24 rfl rfl rfl hap ?_))
    go_upto_region 5 with (first | (at_builtin; refine wpList_append_run rfl (.tmp 61) (.tmp 62) 24 rfl rfl rfl hap ?_))
    go_upto_region 7 with (fail)
    obtain ⟨ns2, hns2⟩ : ∃ ns2, ns2 = (ns.set k (bare xa)).set k2 (bare xb) := ⟨_, rfl⟩
    have gq : ¬ g = q ∧ ¬ g = q + 1 := by have := lt_of_blk HX.out.1; have := lt_of_blk HTU.out; have := HHG.out; omega
    have KS : Hid (RW 23 (put5 (put5 w2 g k xa) g k2 xb) q #[.int .i64 c.t, .int .i64 c.s, .int .i64 c.c, .int .i64 c.h, .int .i64 c.k, .int .i64 c.e, .int .i64 c.l] ∧ RW 50 (put5 (put5 w2 g k xa) g k2 xb) (q + 1) #[.int .i64 (k : Int), .int .i64 (k2 : Int), .slice lo tn lc] ∧ Kept [] w1 (put5 (put5 w2 g k xa) g k2 xb) ∧ NRow (put5 (put5 w2 g k xa) g k2 xb) g ns2) := hidOf (by
      have ks := kept_put5 (kept_put5 (Kept.refl [g] w2) k xa) k2 xb
      refine ⟨(HX.out.1.kept HK2.out (by simp)).kept ks (by simp; omega), (HTU.out.kept HK2.out (by simp)).kept ks (by simp; omega), HK2.out.then ks (fun y hy => by simp at hy; subst hy; exact Or.inr HHG.out), ?_⟩
      rw [hns2]
      exact (HNR.out.put5 HK0.out.1 xa).put5 (by simpa using HK0.out.2) xb)
    have HN2 := hidOf (show n = ns2.length ∧ RightN c ns2 ∧ (∀ x ∈ ns2, x.wf) ∧ (ns2.getD k nn0).k = xa.k ∧ (ns2.getD k2 nn0).k = xb.k ∧ ∀ j, (ns2.getD j nn0).k = (ns.getD j nn0).k from by
      have h2 : k2 < (ns.set k (bare xa)).length := by simpa using HK0.out.2
      have e2 : (ns.set k (bare xa)).getD k2 nn0 = xb := by rw [getD_put _ _ _ _ _ HK0.out.1, if_neg (by omega), ← HXA.out.2]
      have ek : ∀ j, (ns2.getD j nn0).k = (ns.getD j nn0).k := fun j => by
        rw [hns2, getD_put _ _ _ _ _ h2]
        split
        · rename_i q; rw [q, ← HXA.out.2]; rfl
        · rw [getD_put _ _ _ _ _ HK0.out.1]
          split
          · rename_i q; rw [q, ← HXA.out.1]; rfl
          · rfl
      have z := (HR0.out.bare HK0.out.1)
      rw [← HXA.out.1] at z
      have z2 := z.bare h2
      rw [e2] at z2
      have y := wf_bare HW.out HK0.out.1
      rw [← HXA.out.1] at y
      have y2 := wf_bare y h2
      rw [e2] at y2
      refine ⟨by rw [hns2]; simp; exact HNN.out, by rw [hns2]; exact z2, by rw [hns2]; exact y2, by rw [ek, ← HXA.out.1], by rw [ek, ← HXA.out.2], ek⟩)
    clear hns2
    refine gen_world (fun Y => RW 23 Y q #[.int .i64 c.t, .int .i64 c.s, .int .i64 c.c, .int .i64 c.h, .int .i64 c.k, .int .i64 c.e, .int .i64 c.l] ∧ RW 50 Y (q + 1) #[.int .i64 (k : Int), .int .i64 (k2 : Int), .slice lo tn lc] ∧ Kept [] w1 Y ∧ NRow Y g ns2) KS.out ?_
    clear KS hap a0 a1 a2 a3 a4 c0 c1 c2 c3 c4 l1 l2 l3 nf nl gne gq HNR zl
    rintro U ⟨UC, UT, UK, UN⟩
    have HX9 := hidOf (And.intro UC (HX.out.2.trans UK))
    have HTU9 := hidOf UT
    have HKU := hidOf UK
    have HU := hidOf UN
    clear UC UT UK UN HX HTU
    have HX := HX9
    have HTU := HTU9
    clear HX9 HTU9
    have HR := hidOf HN2.out.2.1
    have SX : Hid (∀ W' : World, Kept [] U W' → W'.cell? ⟨q, 0, none⟩ = some (.int .i64 c.t) ∧ W'.cell? ⟨q, 1, none⟩ = some (.int .i64 c.s) ∧ W'.cell? ⟨q, 2, none⟩ = some (.int .i64 c.c) ∧ W'.cell? ⟨q, 3, none⟩ = some (.int .i64 c.h) ∧ W'.cell? ⟨q, 4, none⟩ = some (.int .i64 c.k) ∧ W'.cell? ⟨q, 5, none⟩ = some (.int .i64 c.e) ∧ W'.cell? ⟨q, 6, none⟩ = some (.int .i64 c.l)) := hidOf (by
      intro W' kk
      have y := HX.out.1.kept kk (by simp)
      exact ⟨cell_of_blk y (i := 0) rfl, cell_of_blk y (i := 1) rfl, cell_of_blk y (i := 2) rfl, cell_of_blk y (i := 3) rfl, cell_of_blk y (i := 4) rfl, cell_of_blk y (i := 5) rfl, cell_of_blk y (i := 6) rfl⟩)
    have LY : Hid (∀ (W' : World), Kept [] U W' → Calls Tryd.prog 18 #[.agg #[.int .i64 c.t, .int .i64 c.s, .int .i64 c.c, .int .i64 c.h, .int .i64 c.k, .int .i64 c.e, .int .i64 c.l], .slice (some ⟨g, 0, none⟩) n c'] W' fun e w' => ∃ g c', e = .returned (.slice (some ⟨g, 0, none⟩) (lnN c) c') ∧ RowR w' g (layV c ns2) c' ∧ Kept [] U w') := hidOf (fun W' kk => (lay_any c ns2 (some ⟨g, 0, none⟩) n c' W' HR.out HN2.out.2.2.1 (HU.out.kept kk (by simp)).sl HN2.out.1).mono fun e w' hh => by
      obtain ⟨g, c', e1, _, R, K⟩ := hh
      exact ⟨g, c', e1, R, kk.trans K⟩)
    have OF : Hid (∀ (W' : World) (g c' : Nat), Kept [] U W' → RowR W' g (layV c ns2) c' → Calls Tryd.prog 17 #[.agg #[.int .i64 c.t, .int .i64 c.s, .int .i64 c.c, .int .i64 c.h, .int .i64 c.k, .int .i64 c.e, .int .i64 c.l], .slice (some ⟨g, 0, none⟩) (lnN c) c'] W' fun e w' => ∃ m p r, e = .returned (.tuple #[.pointer (some ⟨m, 0, none⟩), .int .i64 0]) ∧ (U.heap.size ≤ m ∧ U.heap.size ≤ p ∧ U.heap.size ≤ r) ∧ Mm w' m p r c (layV c ns2) 0 Acc.zero ∧ Kept [] U w') := hidOf (fun W' g c' kk R => (mof_yes c (some ⟨g, 0, none⟩) (layV c ns2) (lnN c) c' W' HR.out.r (lnN_eq c) (by have z := (Ld.laid HR.out).len; have y := lnN_eq c; omega) R.sl).mono fun e w' hh => by
      obtain ⟨m, p, r, e1, ⟨h0, h1, h2⟩, M, K⟩ := hh
      have := kk.size
      exact ⟨m, p, r, e1, ⟨by omega, by omega, by omega⟩, M, kk.trans K⟩)
    obtain ⟨LN, hLN⟩ : ∃ LN, LN = lnN c := ⟨_, rfl⟩
    rw [← hLN] at LY OF
    obtain ⟨LV, hLV⟩ : ∃ LV, LV = layV c ns2 := ⟨_, rfl⟩
    rw [← hLV] at LY OF
    have HLV := hidOf hLV
    clear hLN hLV
    go_wp2_with fail
    go_region_held3 (fun W' => W'.cell? ⟨q, 0, none⟩ = some (.int .i64 c.t) ∧ W'.cell? ⟨q, 1, none⟩ = some (.int .i64 c.s) ∧ W'.cell? ⟨q, 2, none⟩ = some (.int .i64 c.c) ∧ W'.cell? ⟨q, 3, none⟩ = some (.int .i64 c.h) ∧ W'.cell? ⟨q, 4, none⟩ = some (.int .i64 c.k) ∧ W'.cell? ⟨q, 5, none⟩ = some (.int .i64 c.e) ∧ W'.cell? ⟨q, 6, none⟩ = some (.int .i64 c.l))
      (exact SX.out _ (by first | assumption | exact (Kept.refl _ _).drew | exact Kept.refl _ _))
      (first
        | (go_at_call 18; with_reducible refine (LY.out _ (by first | assumption | exact (Kept.refl _ _).drew | exact Kept.refl _ _)).mono ?_; rintro e w5 ⟨g5, c5, rfl, R5, K5⟩)
        | (go_at_call 17; with_reducible refine (OF.out _ _ _ (by assumption) (by assumption)).mono ?_; rintro e w6 ⟨m, p, r, rfl, hpr, M6, K6⟩))
    have HY := hidOf (And.intro hpr (And.intro M6 K6))
    clear R5 K5 hpr M6 K6 SX LY OF
    have HKW : Hid (∀ j, j < ns.length → ∀ Y, Kept [] w6 Y → Y.cell? ⟨b1, o1 + j * 5, none⟩ = some (.int .u64 (ns.getD j nn0).k) ∧ b1 < Y.heap.size) := hidOf (fun j hj Y kk => by
      obtain ⟨b, o, e, R⟩ := HRW.out j hj
      cases e
      have z := R Y ((HKU.out.trans HY.out.2.2).trans kk)
      exact ⟨z.1.1, z.2⟩)
    obtain ⟨ta, hta⟩ : ∃ x, x = xa.t := ⟨_, rfl⟩
    obtain ⟨tb, htb⟩ : ∃ x, x = xb.t := ⟨_, rfl⟩
    have SX : Hid (∀ W' : World, Kept [] w6 W' → (W'.cell? ⟨b1, o1 + k * 5, none⟩ = some (.int .u64 xa.k) ∧ W'.cell? ⟨b1, o1 + k * 5 + 2, none⟩ = some (.int .i64 ta)) ∧ (W'.cell? ⟨b1, o1 + k2 * 5, none⟩ = some (.int .u64 xb.k) ∧ W'.cell? ⟨b1, o1 + k2 * 5 + 2, none⟩ = some (.int .i64 tb))) := hidOf (fun W' kk => by
      have z := HR1.out W' ((HKU.out.trans HY.out.2.2).trans kk)
      have y := HR2.out W' ((HKU.out.trans HY.out.2.2).trans kk)
      rw [hta, htb]
      exact ⟨z.1, y.1⟩)
    clear hta htb
    obtain ⟨HA, hHA⟩ : ∃ z, z = hw (k + 1) := ⟨_, rfl⟩
    have OFA : Hid (∀ (Y : World), Kept [] w6 Y → Calls Tryd.prog 11 #[.int .i64 (IntKind.i64.wrap ((k : Int) + 1)), .int .i64 0] Y fun e w' => e = .returned (.int .u64 HA) ∧ Kept [] Y w' ∧ Kept [] w6 w') := hidOf (fun Y kk => by
      rw [show IntKind.i64.wrap ((k : Int) + 1) = (k : Int) + 1 by rw [IntKind.wrap_i64]; omega, hHA]
      have z := rof1_any ((k : Int) + 1) 0 Y (by omega) (by omega)
      rw [pack_hw1] at z
      exact z.mono fun _ _ hh => And.intro hh.1 (And.intro hh.2 (kk.trans hh.2)))
    have HWA := hidOf (And.intro hHA (show isW HA by rw [hHA]; exact hw_isW (k := k + 1) (by omega)))
    clear hHA
    have NWA := hidOf (fun (W' : World) (kk : Kept [] w6 W') => (bnew_any HA xa.k ta W').mono fun e w' hh => (by
      obtain ⟨b, fb, e1, h1, h2, B, F, K⟩ := hh
      have := kk.size
      exact ⟨b, fb, e1, ⟨⟨h1, h2⟩, by omega, by omega⟩, And.intro B F, K, kk.trans K⟩ : ∃ b fb, e = .returned (.pointer (some ⟨b, 0, none⟩)) ∧ ((W'.heap.size ≤ b ∧ W'.heap.size ≤ fb) ∧ w6.heap.size ≤ b ∧ w6.heap.size ≤ fb) ∧ (BB w' b fb HA xa.k ta (if ta < 2 then .nilFunc else K.ffV 46 b) 1 0 ∧ FB w' fb (K.ffV 60 fb) xa.k 0 0 0 0 0 none 0 0) ∧ Kept [] W' w' ∧ Kept [] w6 w'))
    obtain ⟨HB, hHB⟩ : ∃ z, z = hw (k2 + 1) := ⟨_, rfl⟩
    have OFB : Hid (∀ (Y : World), Kept [] w6 Y → Calls Tryd.prog 11 #[.int .i64 (IntKind.i64.wrap ((k2 : Int) + 1)), .int .i64 0] Y fun e w' => e = .returned (.int .u64 HB) ∧ Kept [] Y w' ∧ Kept [] w6 w') := hidOf (fun Y kk => by
      rw [show IntKind.i64.wrap ((k2 : Int) + 1) = (k2 : Int) + 1 by rw [IntKind.wrap_i64]; omega, hHB]
      have z := rof1_any ((k2 : Int) + 1) 0 Y (by omega) (by omega)
      rw [pack_hw1] at z
      exact z.mono fun _ _ hh => And.intro hh.1 (And.intro hh.2 (kk.trans hh.2)))
    have HWB := hidOf (And.intro hHB (show isW HB by rw [hHB]; exact hw_isW (k := k2 + 1) (by omega)))
    clear hHB
    have NWB := hidOf (fun (W' : World) (kk : Kept [] w6 W') => (bnew_any HB xb.k tb W').mono fun e w' hh => (by
      obtain ⟨b, fb, e1, h1, h2, B, F, K⟩ := hh
      have := kk.size
      exact ⟨b, fb, e1, ⟨⟨h1, h2⟩, by omega, by omega⟩, And.intro B F, K, kk.trans K⟩ : ∃ b fb, e = .returned (.pointer (some ⟨b, 0, none⟩)) ∧ ((W'.heap.size ≤ b ∧ W'.heap.size ≤ fb) ∧ w6.heap.size ≤ b ∧ w6.heap.size ≤ fb) ∧ (BB w' b fb HB xb.k tb (if tb < 2 then .nilFunc else K.ffV 46 b) 1 0 ∧ FB w' fb (K.ffV 60 fb) xb.k 0 0 0 0 0 none 0 0) ∧ Kept [] W' w' ∧ Kept [] w6 w'))
    go_wp2_with fail
    go_region_held3 (fun W' => (W'.cell? ⟨b1, o1 + k * 5, none⟩ = some (.int .u64 xa.k) ∧ W'.cell? ⟨b1, o1 + k * 5 + 2, none⟩ = some (.int .i64 ta)) ∧ (W'.cell? ⟨b1, o1 + k2 * 5, none⟩ = some (.int .u64 xb.k) ∧ W'.cell? ⟨b1, o1 + k2 * 5 + 2, none⟩ = some (.int .i64 tb)))
      (exact SX.out _ (by first | assumption | exact (Kept.refl _ _).drew | exact Kept.refl _ _))
      (first
        | (go_at_call 11; with_reducible refine (OFA.out _ (by first | assumption | exact (Kept.refl _ _).drew)).mono ?_; rintro e wa1 ⟨rfl, Ka1, La1⟩)
        | (go_at_call 11; with_reducible refine (OFB.out _ (by first | assumption | exact (Kept.refl _ _).drew)).mono ?_; rintro e wb1 ⟨rfl, Kb1, Lb1⟩)
        | (go_at_call 10; with_reducible refine (NWA.out _ (by first | assumption | exact (Kept.refl _ _).drew)).mono ?_; rintro e wa2 ⟨ba, fa, rfl, ha, Ba, Ka2, La2⟩)
        | (go_at_call 10; with_reducible refine (NWB.out _ (by first | assumption | exact (Kept.refl _ _).drew)).mono ?_; rintro e wb2 ⟨bb, fb, rfl, hb, Bb, Kb2, Lb2⟩))
    have HC2 : Hid ((Kept [] w6 wb2 ∧ Kept [] wa2 wb2) ∧ ¬ ba = bb ∧ ¬ fa = fb ∧ U.heap.size ≤ w6.heap.size) := hidOf (by
      have k1 := Kb1.size
      have l1 := lt_of_blk Ba.1
      have l2 : fa < wa2.heap.size := lt_of_blk Ba.2
      exact ⟨⟨Lb2, Kb1.trans Kb2⟩, by omega, by omega, HY.out.2.2.size⟩)
    have WFA : xa.wf ∧ xb.wf := by
      have e1 : ns.getD k nn0 = ns[k]'HK0.out.1 := by simp [HK0.out.1]
      have e2 : ns.getD k2 nn0 = ns[k2]'HK0.out.2 := by simp [HK0.out.2]
      rw [HXA.out.1, HXA.out.2, e1, e2]; exact ⟨HW.out _ (List.getElem_mem _), HW.out _ (List.getElem_mem _)⟩
    have wdL : Wds LV := by rw [HLV.out]; exact wds_all HR.out HN2.out.2.2.1 ns2.length (Nat.le_refl _)
    have HP : Hid (Bp U wb2 ba fa m p r c HA xa.k ta LV 0 Acc.zero ∧ Bp U wb2 bb fb m p r c HB xb.k tb LV 0 Acc.zero) := hidOf (by
      have sz := HC2.out.2.2.2
      have kk := HC2.out.1.2
      have ha2 := ha.2
      have hb2 := hb.2
      exact ⟨⟨Ba.1.kept kk (by simp), Ba.2.kept kk (by simp), HY.out.2.1.new HC2.out.1.1, HY.out.2.2.trans HC2.out.1.1, HT.out.kept HX.out.2, by omega, by omega, HY.out.1.2.1, HY.out.1.2.2, HR.out.r, wdL, Int.le_refl _, HWA.out.2, WFA.1.1⟩,
        ⟨Bb.1, Bb.2, HY.out.2.1.new HC2.out.1.1, HY.out.2.2.trans HC2.out.1.1, HT.out.kept HX.out.2, by omega, by omega, HY.out.1.2.1, HY.out.1.2.2, HR.out.r, wdL, Int.le_refl _, HWB.out.2, WFA.2.1⟩⟩)
    clear Ka1 La1 Ka2 La2 Kb1 Lb1 Kb2 Lb2 ha hb Ba Bb SX NWA NWB OFA OFB wdL
    have SG : Hid (∀ W' : World, Kept [] wb2 W' → W'.cell? ⟨q, 0, none⟩ = some (.int .i64 c.t)) := hidOf (fun W' kk => by
      have y := HX.out.1.kept ((HY.out.2.2.trans HC2.out.1.1).trans kk) (by simp)
      exact cell_of_blk y (i := 0) rfl)
    obtain ⟨tz, htz⟩ : ∃ z, z = IntKind.i64.wrap (c.t - 1) := ⟨_, rfl⟩
    have GA := hidOf (fun (W' : World) (kk : Kept [] wb2 W') => (gnew_any 0 W').mono fun e w' hh => (by
      obtain ⟨b, e1, h1, G, K⟩ := hh
      have := kk.size
      exact ⟨b, e1, ⟨h1, by omega⟩, G, K, kk.trans K⟩ : ∃ b, e = .returned (.pointer (some ⟨b, 0, none⟩)) ∧ (W'.heap.size ≤ b ∧ wb2.heap.size ≤ b) ∧ GB w' b ⟨0, 0, 0⟩ ∧ Kept [] W' w' ∧ Kept [] wb2 w'))
    have GBb : Hid (∀ (W' : World) (kk : Kept [] wb2 W'), Calls Tryd.prog 19 #[.int .i64 (IntKind.i64.wrap (c.t - 1))] W' fun e w' => ∃ b, e = .returned (.pointer (some ⟨b, 0, none⟩)) ∧ (W'.heap.size ≤ b ∧ wb2.heap.size ≤ b) ∧ GB w' b ⟨0, 0, tz⟩ ∧ Kept [] W' w' ∧ Kept [] wb2 w') := hidOf (fun (W' : World) (kk : Kept [] wb2 W') => by
      rw [← htz]
      exact (gnew_any tz W').mono fun e w' hh => by
        obtain ⟨b, e1, h1, G, K⟩ := hh
        have := kk.size
        exact ⟨b, e1, ⟨h1, by omega⟩, G, K, kk.trans K⟩)
    clear htz
    go_wp2_with fail
    go_region_held3 (fun W' => W'.cell? ⟨q, 0, none⟩ = some (.int .i64 c.t))
      (exact SG.out _ (by first | assumption | exact (Kept.refl _ _).drew | exact Kept.refl _ _))
      (first
        | (go_at_call 19; with_reducible refine (GA.out _ (by first | assumption | exact (Kept.refl _ _).drew)).mono ?_; rintro e wg1 ⟨ga, rfl, hga, Ga, Kg1, Lg1⟩)
        | (go_at_call 19; with_reducible refine (GBb.out _ (by first | assumption | exact (Kept.refl _ _).drew)).mono ?_; rintro e wg2 ⟨gb, rfl, hgb, Gb, Kg2, Lg2⟩))
    obtain ⟨l, hl⟩ : ∃ l, l = ndOf c ns2 := ⟨_, rfl⟩
    have HL := hidOf (show l.ok c ∧ l.n = n ∧ (∀ i, l.K (i + 1) = (ns.getD i nn0).k) ∧ Ri c l LV from by
      rw [hl, HLV.out]
      exact ⟨HR.out.ok, by have := HN2.out.1; show ns2.length = n; omega, fun i => by show (ns2.getD (i + 1 - 1) nn0).k = _; rw [show i + 1 - 1 = i by omega]; exact HN2.out.2.2.2.2.2 i, Ri.laid HR.out⟩)
    have HTW : Hid (Tw U wg2 ba fa ga ⟨0, 0, 0⟩ (bmS HA xa.k ta) bb fb gb ⟨0, 0, tz⟩ (bmS HB xb.k tb) m p r c LV 0 Acc.zero) := hidOf (by
      have sz := HC2.out.2.2.2
      have s1 := HC2.out.1.1.size
      have P1 := HP.out.1.new Lg2
      have P2 := HP.out.2.new Lg2
      have lg := Ga.lt
      have k1 := Kg1.size
      have k2 := Lg1.size
      exact ⟨P1.start (Ga.kept Kg2 (by simp)) (by omega), P2.start Gb (by omega), HC2.out.2.1, HC2.out.2.2.1, by omega, fun q hq => absurd hq (P1.norow q)⟩)
    have HRB := hidOf (show Rb l (k + 1) (bmS HA xa.k ta) ∧ Rb l (k2 + 1) (bmS HB xb.k tb) from by
      have e1 := HL.out.2.2.1 k
      have e2 := HL.out.2.2.1 k2
      rw [HWA.out.1, HWB.out.1, HXA.out.1, HXA.out.2, ← e1, ← e2]
      exact ⟨Rb.start (by omega) (by rw [HL.out.2.1]; omega) _, Rb.start (by omega) (by rw [HL.out.2.1]; omega) _⟩)
    have HG1 := hidOf (Lg2 : Kept [] wb2 wg2)
    have zl := cell_of_blk (HTU.out.kept ((HY.out.2.2.trans HC2.out.1.1).trans Lg2) (by simp)) (i := 2) (v := .slice lo tn lc) rfl
    have HHN := hidOf (HN_eq RR0.out)
    have h6 : c.h ≤ 6 := RR0.out.h1
    have h0 : 1 ≤ c.h := RR0.out.h0
    have tn2 : (tn : Int) ≤ 200 := by omega
    have HIN := hidOf (And.intro HTW.out (And.intro HL.out.2.2.2 HRB.out))
    have ok := HL.out.1
    have HL2 := hidOf (And.intro HL.out.1 (And.intro HL.out.2.1 HL.out.2.2.1))
    have HRR := hidOf HR.out.r
    have HNC := hidOf (show (n : Int) ≤ c.c by have := HR.out.n; have := HN2.out.1; omega)
    have HKK : Hid (∀ j, j < n → ∀ Y, Kept [] U Y → Y.cell? ⟨b1, o1 + j * 5, none⟩ = some (.int .u64 (ns.getD j nn0).k) ∧ b1 < Y.heap.size) := hidOf (fun j hj Y kk => by
      obtain ⟨b, o, e, R⟩ := HRW.out j (by have := HNN.out; omega)
      cases e
      have z := R Y (HKU.out.trans kk)
      exact ⟨z.1.1, z.2⟩)
    have HUP := hidOf (show ∀ i j, i < j → j < n → (ns.getD i nn0).k < (ns.getD j nn0).k from fun i j h1 h2 => by
      have z := HL.out.1.up (i + 1) (j + 1) (by omega) (by omega) (by rw [HL.out.2.1]; omega)
      rw [HL.out.2.2.1, HL.out.2.2.1] at z; exact z)
    clear HTW HRB HL ok Kg1 Lg1 Kg2 Lg2 hga hgb Ga Gb GA GBb SG hl HP
    go_wp2
    have hsz : Kept [] w wg2 := (HX.out.2.trans (HY.out.2.2.trans HC2.out.1.1)).trans HG1.out
    have HWG := hidOf hsz
    clear hsz HC2 HG1 HKW
    go_loopw [148, 17, 18, 19, 20] (fun s148 _ _ _ _ wr => ∃ i : Nat, i ≤ tn ∧ s148 = .int .i64 i ∧ ∃ fa2 fb2 g1 s1 g2 s2 cs cnt a, Tw U wr ba fa2 ga g1 s1 bb fb2 gb g2 s2 m p r c cs cnt a ∧ Ri c l cs ∧ Rb l (k + 1) s1 ∧ Rb l (k2 + 1) s2 ∧ 0 ≤ cnt ∧ cnt ≤ 500 * i) (fun s148 _ _ _ _ _ => tn - (intOf s148).toNat)
    case atStart => exact ⟨0, by omega, by first | rfl | go_num, _, _, _, _, _, _, _, _, _, HIN.out.1, HIN.out.2.1, HIN.out.2.2.1, HIN.out.2.2.2, Int.le_refl _, by omega⟩
    case round =>
      clear HIN
      obtain ⟨i, hi, rfl, fa0, fb0, ga1, sa1, ga2, sa2, cs0, cnt0, a0, Z, Z1⟩ := hrel
      have HZ := hidOf (And.intro Z Z1)
      clear Z Z1
      by_cases hlt : i < tn
      · have hltz : (i : Int) < (tn : Int) := by omega
        obtain ⟨b3, o3, rfl, l3, c3⟩ := bo_row (HTS.out.new (HX.out.2.trans HZ.out.1.x.fw.kp)) (k := i) (by have := HTN.out; omega)
        obtain ⟨tv, htv⟩ : ∃ t, t = ts.getD i false := ⟨_, rfl⟩
        rw [← htv] at c3
        clear htv
        have SP1 := hidOf (HZ.out.1.step (by have := HZ.out.2.2.2.2.2; omega))
        have SP2 := hidOf (HZ.out.1.flip.step (by have := HZ.out.2.2.2.2.2; omega))
        cases tv with
        | true =>
          go_wp2_with fail
          refine SP1.out.mono ?_
          rintro e w10 ⟨rfl, fnew, T2⟩
          have HJ0 : Hid (∃ fa2 fb2 g1 s1 g2 s2 cs cnt a, Tw U w10 ba fa2 ga g1 s1 bb fb2 gb g2 s2 m p r c cs cnt a ∧ 0 ≤ cnt ∧ cnt ≤ 500 * i + 1 ∧ Ri c l cs ∧ Rb l (k + 1) s1 ∧ Rb l (k2 + 1) s2) := hidOf (by
            obtain ⟨ri, r1, r2, n0, n1⟩ := HZ.out.2
            have RB := Rb.step HRR.out HL2.out.1 ri HZ.out.1.x.bi r1 cnt0 ga1
            exact ⟨fnew, _, _, _, _, _, _, _, _, T2, by unfold bN; split <;> omega, by unfold bN; split <;> omega, RB.2, RB.1, r2⟩)
          clear T2 HZ SP1 SP2
          obtain ⟨fa2, fb2, g1, s1, g2, s2, cs, cnt, a, HJ1⟩ := HJ0.out
          have HJ := hidOf HJ1
          clear HJ0 HJ1
          have y3 := cell_of_blk (HX.out.1.kept HJ.out.1.x.fw.kp (by simp)) (i := 3) (v := .int .i64 c.h) rfl
          clear c3 l3 hltz
          go_wp2
          clear y3
          go_loopw [163, 18, 19, 20] (fun s163 _ _ _ wr => ∃ Lv : Nat, (Lv : Int) ≤ c.h ∧ s163 = .int .i64 Lv ∧ ∃ cnt a, Tw U wr ba fa2 ga g1 s1 bb fb2 gb g2 s2 m p r c cs cnt a ∧ 0 ≤ cnt ∧ cnt ≤ 500 * i + 1 + 70 * Lv) (fun s163 _ _ _ _ => (c.h - intOf s163).toNat)
          case atStart => exact ⟨0, by omega, by first | rfl | go_num, cnt, a, HJ.out.1, HJ.out.2.1, by have := HJ.out.2.2.1; omega⟩
          case round =>
            obtain ⟨Lv, hLv, rfl, cnt3, a3, Z, z0, z1⟩ := hrel
            have HZ := hidOf (And.intro Z (And.intro z0 z1))
            clear Z z0 z1
            by_cases hlv : (Lv : Int) < c.h
            · have hLH : Lv < HN c := by have := HHN.out; omega
              have LK := hidOf (linked_any wr m p r c cs cnt3 a3 Lv n (fun _ => False) (fun _ => True) HZ.out.1.x.fw.st.mm HZ.out.1.x.fw.st.tb RR0.out HZ.out.1.x.pr0.1 HZ.out.1.x.pr0.2 HNC.out hLH (by have z := HJ.out.2.2.2.1.chn hLH; rw [HL2.out.2.1] at z; exact z) HZ.out.2.1 (by have := HZ.out.2.2; omega))
              go_wp2_with fail
              refine LK.out.mono ?_
              rintro e w11 ⟨js, v, cnt4, a4, rfl, O, LS, M, d3, d4, K⟩
              obtain ⟨jo, jc, rfl, CL⟩ := own_i O
              have HB10 := hidOf (And.intro (HZ.out.1.mm M K (by have := HZ.out.2.1; omega)) (show 0 ≤ cnt4 ∧ cnt4 ≤ 500 * i + 1 + 70 * Lv + 70 by have := HZ.out.2; omega))
              rw [jsI_len] at CL ⊢
              obtain ⟨jn, hjn⟩ : ∃ jn, jn = js.length := ⟨_, rfl⟩
              rw [← hjn] at CL ⊢
              have HJS := hidOf (show ∀ t, t + 1 < jn → ∃ I J : Nat, js.getD t 0 = I + 1 ∧ js.getD (t + 1) 0 = J + 1 ∧ I < J ∧ J < n from fun t h => by
                have z1 := LS.nd _ (mem_getD.2 ⟨t, by omega, rfl⟩)
                have z2 := LS.nd _ (mem_getD.2 ⟨t + 1, by omega, rfl⟩)
                have z3 := LS.lt (i := t) (j := t + 1) (by omega) (by omega)
                exact ⟨js.getD t 0 - 1, js.getD (t + 1) 0 - 1, by omega, by omega, by omega, by omega⟩)
              have HCL := hidOf CL
              have jn64 : (jn : Int) ≤ 64 := by have := LS.len; omega
              clear LK O LS M d3 d4 K HZ hjn CL
              go_wp2
              go_loopw [20] (fun s20 wr => ∃ t : Nat, s20 = .int .i64 ((t : Int) + 1) ∧ (t ≤ jn) ∧ Kept [] w11 wr) (fun s20 _ => jn + 1 - (intOf s20).toNat)
              case atStart => exact ⟨0, by first | rfl | go_num, by omega, Kept.refl _ _⟩
              case round =>
                obtain ⟨t, rfl, ht, KI⟩ := hrel
                have HKI := hidOf KI
                clear KI
                by_cases htj : (t : Int) + 1 < (jn : Int)
                · obtain ⟨I, J, eI, eJ, hIJ, hJn⟩ := HJS.out t (by omega)
                  obtain ⟨jb, rfl, jl, jc0⟩ := HCL.out t (by omega)
                  obtain ⟨jb', e', jl', jc1⟩ := HCL.out (t + 1) (by omega)
                  cases e'
                  rw [jsI_get, eI] at jc0
                  rw [jsI_get, eJ] at jc1
                  have cI := (kept_cell HKI.out (b := jb) (o := t) jl).trans jc0
                  have cJ := (kept_cell HKI.out (b := jb) (o := t + 1) jl).trans jc1
                  have cl := Nat.lt_of_lt_of_le jl HKI.out.size
                  have kI := HKK.out I (by omega) wr (HB10.out.1.x.fw.kp.trans HKI.out)
                  have kJ := HKK.out J hJn wr (HB10.out.1.x.fw.kp.trans HKI.out)
                  have hKK := HUP.out I J hIJ hJn
                  obtain ⟨KA, hKA⟩ : ∃ x, x = (ns.getD I nn0).k := ⟨_, rfl⟩
                  obtain ⟨KB, hKB⟩ : ∃ x, x = (ns.getD J nn0).k := ⟨_, rfl⟩
                  rw [← hKA] at kI hKK
                  rw [← hKB] at kJ hKK
                  have n1 := kI.1
                  have n2 := kJ.1
                  have n3 := kI.2
                  clear jc0 jc1 jl jl' kI kJ hKA hKB eI eJ
                  have w1 : IntKind.i64.wrap (t : Int) = (t : Int) := by rw [IntKind.wrap_i64]; omega
                  have w1 : IntKind.i64.wrap (t : Int) = (t : Int) := by rw [IntKind.wrap_i64]; omega
                  have w2 : IntKind.i64.wrap (I : Int) = (I : Int) := by rw [IntKind.wrap_i64]; omega
                  have w3 : IntKind.i64.wrap (J : Int) = (J : Int) := by rw [IntKind.wrap_i64]; omega
                  rw [show (((I + 1 : Nat) : Int)) = (I : Int) + 1 by omega] at cI
                  rw [show (((J + 1 : Nat) : Int)) = (J : Int) + 1 by omega] at cJ
                  have HS0 : Hid (∀ W', Kept [] wr W' → W'.cell? ⟨jb, t, none⟩ = some (.int .i64 ((I : Int) + 1)) ∧ W'.cell? ⟨jb, t + 1, none⟩ = some (.int .i64 ((J : Int) + 1)) ∧ W'.cell? ⟨b1, o1 + I * 5, none⟩ = some (.int .u64 KA) ∧ W'.cell? ⟨b1, o1 + J * 5, none⟩ = some (.int .u64 KB) ∧ jb < W'.heap.size ∧ b1 < W'.heap.size) := hidOf (fun W' kk => by
                    have := kk.size
                    exact ⟨(kept_cell kk (b := jb) (o := t) cl).trans cI, (kept_cell kk (b := jb) (o := t + 1) cl).trans cJ, (kept_cell kk (b := b1) (o := o1 + I * 5) n3).trans n1, (kept_cell kk (b := b1) (o := o1 + J * 5) n3).trans n2, by omega, by omega⟩)
                  have b0 : ¬ (t : Int) + 1 < 0 := by omega
                  have htn : (t : Int) < (jn : Int) := by omega
                  have hIn : (I : Int) < (n : Int) := by omega
                  have hJn2 : (J : Int) < (n : Int) := by omega
                  have g1 : decide ((n : Int) < (J : Int) + 1) = false := by simp; omega
                  have g2 : decide ((n : Int) < (I : Int) + 1) = false := by simp; omega
                  have g3 : decide (KB ≤ KA) = false := by simp; omega
                  go_upto_region 25 with (fail)
                  refine wp_region_held_drew (S := fun w' => Kept [] wr w') (by kernel_rfl) (Kept.refl [] wr).drew (fun hS => ?_)
                  refine wpAnyH_take (i := 0) (oi := { dst := some 175, op := Op.move (Operand.tmp 19), type := 36, pos := "law.go:214", after := #[], guard := none }) (v := .slice (some ⟨jb, 0, none⟩) jn jc) rfl (by kernel_rfl) (by kernel_rfl) (by kernel_rfl) (fun _ _ _ h => h) (Or.inl ⟨by rfl, fun w hSw => by obtain ⟨q0, q1, q2, q3, q4, q5⟩ := HS0.out _ hSw; go_simp⟩) hS ?_
                  try simp only [Act.put, List.setIfInBounds_toArray, List.set_cons_zero, List.set_cons_succ]
                  refine wpAnyH_take (i := 1) (oi := { dst := some 176, op := Op.move (Operand.tmp 20), type := 3, pos := "law.go:214", after := #[], guard := none }) (v := .int .i64 ((t : Int) + 1)) rfl (by kernel_rfl) (by kernel_rfl) (by kernel_rfl) (fun _ _ _ h => h) (Or.inl ⟨by rfl, fun w hSw => by obtain ⟨q0, q1, q2, q3, q4, q5⟩ := HS0.out _ hSw; go_simp⟩) hS ?_
                  try simp only [Act.put, List.setIfInBounds_toArray, List.set_cons_zero, List.set_cons_succ]
                  refine wpAnyH_take (i := 2) (oi := { dst := some 177, op := Op.indexAddr 36 (Operand.tmp 175) (Operand.tmp 176), type := 0, pos := "law.go:214", after := #[{ on := 0, ground := Ground.data }, { on := 1, ground := Ground.data }], guard := none }) (v := .pointer (some ⟨jb, t + 1, none⟩)) rfl (by kernel_rfl) (by kernel_rfl) (by kernel_rfl) (fun _ _ _ h => h) (Or.inl ⟨by rfl, fun w hSw => by obtain ⟨q0, q1, q2, q3, q4, q5⟩ := HS0.out _ hSw; go_simp⟩) hS ?_
                  try simp only [Act.put, List.setIfInBounds_toArray, List.set_cons_zero, List.set_cons_succ]
                  refine wpAnyH_take (i := 3) (oi := { dst := some 178, op := Op.load 3 (Operand.tmp 177), type := 3, pos := "law.go:214", after := #[{ on := 2, ground := Ground.data }], guard := none }) (v := .int .i64 ((J : Int) + 1)) rfl (by kernel_rfl) (by kernel_rfl) (by kernel_rfl) (fun _ _ _ h => h) (Or.inl ⟨by rfl, fun w hSw => by obtain ⟨q0, q1, q2, q3, q4, q5⟩ := HS0.out _ hSw; go_simp⟩) hS ?_
                  try simp only [Act.put, List.setIfInBounds_toArray, List.set_cons_zero, List.set_cons_succ]
                  refine wpAnyH_take (i := 4) (oi := { dst := some 179, op := Op.move (Operand.tmp 1), type := 24, pos := "law.go:214", after := #[], guard := none }) (v := .slice (some ⟨b1, o1, none⟩) n cap) rfl (by kernel_rfl) (by kernel_rfl) (by kernel_rfl) (fun _ _ _ h => h) (Or.inl ⟨by rfl, fun w hSw => by obtain ⟨q0, q1, q2, q3, q4, q5⟩ := HS0.out _ hSw; go_simp⟩) hS ?_
                  try simp only [Act.put, List.setIfInBounds_toArray, List.set_cons_zero, List.set_cons_succ]
                  refine wpAnyH_take (i := 5) (oi := { dst := some 180, op := Op.call { callee := Callee.builtin Builtin.len, args := #[Operand.tmp 179], argTypes := #[24] }, type := 3, pos := "law.go:214", after := #[{ on := 4, ground := Ground.data }], guard := none }) (v := .int .i64 (n : Int)) rfl (by kernel_rfl) (by kernel_rfl) (by kernel_rfl) (fun _ _ _ h => h) (Or.inl ⟨by rfl, fun w hSw => by obtain ⟨q0, q1, q2, q3, q4, q5⟩ := HS0.out _ hSw; go_simp⟩) hS ?_
                  try simp only [Act.put, List.setIfInBounds_toArray, List.set_cons_zero, List.set_cons_succ]
                  refine wpAnyH_take (i := 6) (oi := { dst := some 181, op := Op.binOp BinOp.gtr 3 (Operand.tmp 178) (Operand.tmp 180) 3, type := 4, pos := "law.go:214", after := #[{ on := 3, ground := Ground.data }, { on := 5, ground := Ground.data }], guard := none }) (v := .bool false) rfl (by kernel_rfl) (by kernel_rfl) (by kernel_rfl) (fun _ _ _ h => h) (Or.inl ⟨by rfl, fun w hSw => by obtain ⟨q0, q1, q2, q3, q4, q5⟩ := HS0.out _ hSw; go_simp⟩) hS ?_
                  try simp only [Act.put, List.setIfInBounds_toArray, List.set_cons_zero, List.set_cons_succ]
                  refine wpAnyH_take (i := 7) (oi := { dst := some 182, op := Op.move (Operand.tmp 181), type := 4, pos := "law.go:214", after := #[{ on := 6, ground := Ground.data }], guard := none }) (v := .bool false) rfl (by kernel_rfl) (by kernel_rfl) (by kernel_rfl) (fun _ _ _ h => h) (Or.inl ⟨by rfl, fun w hSw => by obtain ⟨q0, q1, q2, q3, q4, q5⟩ := HS0.out _ hSw; go_simp⟩) hS ?_
                  try simp only [Act.put, List.setIfInBounds_toArray, List.set_cons_zero, List.set_cons_succ]
                  refine wpAnyH_take (i := 8) (oi := { dst := some 183, op := Op.move (Operand.tmp 19), type := 36, pos := "law.go:214", after := #[{ on := 7, ground := Ground.guard }], guard := some (7, false) }) (v := .slice (some ⟨jb, 0, none⟩) jn jc) rfl (by kernel_rfl) (by kernel_rfl) (by kernel_rfl) (fun _ _ _ h => h) (Or.inl ⟨by rfl, fun w hSw => by obtain ⟨q0, q1, q2, q3, q4, q5⟩ := HS0.out _ hSw; go_simp⟩) hS ?_
                  try simp only [Act.put, List.setIfInBounds_toArray, List.set_cons_zero, List.set_cons_succ]
                  refine wpAnyH_take (i := 9) (oi := { dst := some 184, op := Op.move (Operand.tmp 20), type := 3, pos := "law.go:214", after := #[{ on := 7, ground := Ground.guard }], guard := some (7, false) }) (v := .int .i64 ((t : Int) + 1)) rfl (by kernel_rfl) (by kernel_rfl) (by kernel_rfl) (fun _ _ _ h => h) (Or.inl ⟨by rfl, fun w hSw => by obtain ⟨q0, q1, q2, q3, q4, q5⟩ := HS0.out _ hSw; go_simp⟩) hS ?_
                  try simp only [Act.put, List.setIfInBounds_toArray, List.set_cons_zero, List.set_cons_succ]
                  refine wpAnyH_take (i := 10) (oi := { dst := some 185, op := Op.binOp BinOp.sub 3 (Operand.tmp 184) (Operand.const (Value.int IntKind.i64 1)) 3, type := 3, pos := "law.go:214", after := #[{ on := 9, ground := Ground.data }, { on := 7, ground := Ground.guard }], guard := some (7, false) }) (v := .int .i64 (t : Int)) rfl (by kernel_rfl) (by kernel_rfl) (by kernel_rfl) (fun _ _ _ h => h) (Or.inl ⟨by rfl, fun w hSw => by obtain ⟨q0, q1, q2, q3, q4, q5⟩ := HS0.out _ hSw; go_simp⟩) hS ?_
                  try simp only [Act.put, List.setIfInBounds_toArray, List.set_cons_zero, List.set_cons_succ]
                  refine wpAnyH_take (i := 11) (oi := { dst := some 186, op := Op.indexAddr 36 (Operand.tmp 183) (Operand.tmp 185), type := 0, pos := "law.go:214", after := #[{ on := 8, ground := Ground.data }, { on := 10, ground := Ground.data }, { on := 7, ground := Ground.guard }], guard := some (7, false) }) (v := .pointer (some ⟨jb, t, none⟩)) rfl (by kernel_rfl) (by kernel_rfl) (by kernel_rfl) (fun _ _ _ h => h) (Or.inl ⟨by rfl, fun w hSw => by obtain ⟨q0, q1, q2, q3, q4, q5⟩ := HS0.out _ hSw; go_simp⟩) hS ?_
                  try simp only [Act.put, List.setIfInBounds_toArray, List.set_cons_zero, List.set_cons_succ]
                  refine wpAnyH_take (i := 12) (oi := { dst := some 187, op := Op.load 3 (Operand.tmp 186), type := 3, pos := "law.go:214", after := #[{ on := 11, ground := Ground.data }, { on := 7, ground := Ground.guard }], guard := some (7, false) }) (v := .int .i64 ((I : Int) + 1)) rfl (by kernel_rfl) (by kernel_rfl) (by kernel_rfl) (fun _ _ _ h => h) (Or.inl ⟨by rfl, fun w hSw => by obtain ⟨q0, q1, q2, q3, q4, q5⟩ := HS0.out _ hSw; go_simp⟩) hS ?_
                  try simp only [Act.put, List.setIfInBounds_toArray, List.set_cons_zero, List.set_cons_succ]
                  refine wpAnyH_take (i := 13) (oi := { dst := some 188, op := Op.move (Operand.tmp 1), type := 24, pos := "law.go:214", after := #[{ on := 7, ground := Ground.guard }], guard := some (7, false) }) (v := .slice (some ⟨b1, o1, none⟩) n cap) rfl (by kernel_rfl) (by kernel_rfl) (by kernel_rfl) (fun _ _ _ h => h) (Or.inl ⟨by rfl, fun w hSw => by obtain ⟨q0, q1, q2, q3, q4, q5⟩ := HS0.out _ hSw; go_simp⟩) hS ?_
                  try simp only [Act.put, List.setIfInBounds_toArray, List.set_cons_zero, List.set_cons_succ]
                  refine wpAnyH_take (i := 14) (oi := { dst := some 189, op := Op.call { callee := Callee.builtin Builtin.len, args := #[Operand.tmp 188], argTypes := #[24] }, type := 3, pos := "law.go:214", after := #[{ on := 13, ground := Ground.data }, { on := 7, ground := Ground.guard }], guard := some (7, false) }) (v := .int .i64 (n : Int)) rfl (by kernel_rfl) (by kernel_rfl) (by kernel_rfl) (fun _ _ _ h => h) (Or.inl ⟨by rfl, fun w hSw => by obtain ⟨q0, q1, q2, q3, q4, q5⟩ := HS0.out _ hSw; go_simp⟩) hS ?_
                  try simp only [Act.put, List.setIfInBounds_toArray, List.set_cons_zero, List.set_cons_succ]
                  refine wpAnyH_take (i := 15) (oi := { dst := some 190, op := Op.binOp BinOp.gtr 3 (Operand.tmp 187) (Operand.tmp 189) 3, type := 4, pos := "law.go:214", after := #[{ on := 12, ground := Ground.data }, { on := 14, ground := Ground.data }, { on := 7, ground := Ground.guard }], guard := some (7, false) }) (v := .bool false) rfl (by kernel_rfl) (by kernel_rfl) (by kernel_rfl) (fun _ _ _ h => h) (Or.inl ⟨by rfl, fun w hSw => by obtain ⟨q0, q1, q2, q3, q4, q5⟩ := HS0.out _ hSw; go_simp⟩) hS ?_
                  try simp only [Act.put, List.setIfInBounds_toArray, List.set_cons_zero, List.set_cons_succ]
                  refine wpAnyH_take (i := 16) (oi := { dst := some 191, op := Op.pick (Operand.tmp 182) (Operand.const (Value.bool true)) (Operand.tmp 190), type := 4, pos := "law.go:214", after := #[{ on := 7, ground := Ground.data }, { on := 15, ground := Ground.data }], guard := none }) (v := .bool false) rfl (by kernel_rfl) (by kernel_rfl) (by kernel_rfl) (fun _ _ _ h => h) (Or.inl ⟨by rfl, fun w hSw => by obtain ⟨q0, q1, q2, q3, q4, q5⟩ := HS0.out _ hSw; go_simp⟩) hS ?_
                  try simp only [Act.put, List.setIfInBounds_toArray, List.set_cons_zero, List.set_cons_succ]
                  refine wpAnyH_take (i := 17) (oi := { dst := some 192, op := Op.move (Operand.tmp 191), type := 4, pos := "law.go:214", after := #[{ on := 16, ground := Ground.data }, { on := 7, ground := Ground.chain }], guard := none }) (v := .bool false) rfl (by kernel_rfl) (by kernel_rfl) (by kernel_rfl) (fun _ _ _ h => h) (Or.inl ⟨by rfl, fun w hSw => by obtain ⟨q0, q1, q2, q3, q4, q5⟩ := HS0.out _ hSw; go_simp⟩) hS ?_
                  try simp only [Act.put, List.setIfInBounds_toArray, List.set_cons_zero, List.set_cons_succ]
                  refine wpAnyH_take (i := 18) (oi := { dst := some 193, op := Op.move (Operand.tmp 1), type := 24, pos := "law.go:214", after := #[{ on := 17, ground := Ground.guard }], guard := some (17, false) }) (v := .slice (some ⟨b1, o1, none⟩) n cap) rfl (by kernel_rfl) (by kernel_rfl) (by kernel_rfl) (fun _ _ _ h => h) (Or.inl ⟨by rfl, fun w hSw => by obtain ⟨q0, q1, q2, q3, q4, q5⟩ := HS0.out _ hSw; go_simp⟩) hS ?_
                  try simp only [Act.put, List.setIfInBounds_toArray, List.set_cons_zero, List.set_cons_succ]
                  refine wpAnyH_take (i := 19) (oi := { dst := some 194, op := Op.move (Operand.tmp 19), type := 36, pos := "law.go:214", after := #[{ on := 17, ground := Ground.guard }], guard := some (17, false) }) (v := .slice (some ⟨jb, 0, none⟩) jn jc) rfl (by kernel_rfl) (by kernel_rfl) (by kernel_rfl) (fun _ _ _ h => h) (Or.inl ⟨by rfl, fun w hSw => by obtain ⟨q0, q1, q2, q3, q4, q5⟩ := HS0.out _ hSw; go_simp⟩) hS ?_
                  try simp only [Act.put, List.setIfInBounds_toArray, List.set_cons_zero, List.set_cons_succ]
                  refine wpAnyH_take (i := 20) (oi := { dst := some 195, op := Op.move (Operand.tmp 20), type := 3, pos := "law.go:214", after := #[{ on := 17, ground := Ground.guard }], guard := some (17, false) }) (v := .int .i64 ((t : Int) + 1)) rfl (by kernel_rfl) (by kernel_rfl) (by kernel_rfl) (fun _ _ _ h => h) (Or.inl ⟨by rfl, fun w hSw => by obtain ⟨q0, q1, q2, q3, q4, q5⟩ := HS0.out _ hSw; go_simp⟩) hS ?_
                  try simp only [Act.put, List.setIfInBounds_toArray, List.set_cons_zero, List.set_cons_succ]
                  refine wpAnyH_take (i := 21) (oi := { dst := some 196, op := Op.binOp BinOp.sub 3 (Operand.tmp 195) (Operand.const (Value.int IntKind.i64 1)) 3, type := 3, pos := "law.go:214", after := #[{ on := 20, ground := Ground.data }, { on := 17, ground := Ground.guard }], guard := some (17, false) }) (v := .int .i64 (t : Int)) rfl (by kernel_rfl) (by kernel_rfl) (by kernel_rfl) (fun _ _ _ h => h) (Or.inl ⟨by rfl, fun w hSw => by obtain ⟨q0, q1, q2, q3, q4, q5⟩ := HS0.out _ hSw; go_simp⟩) hS ?_
                  try simp only [Act.put, List.setIfInBounds_toArray, List.set_cons_zero, List.set_cons_succ]
                  refine wpAnyH_take (i := 22) (oi := { dst := some 197, op := Op.indexAddr 36 (Operand.tmp 194) (Operand.tmp 196), type := 0, pos := "law.go:214", after := #[{ on := 19, ground := Ground.data }, { on := 21, ground := Ground.data }, { on := 17, ground := Ground.guard }], guard := some (17, false) }) (v := .pointer (some ⟨jb, t, none⟩)) rfl (by kernel_rfl) (by kernel_rfl) (by kernel_rfl) (fun _ _ _ h => h) (Or.inl ⟨by rfl, fun w hSw => by obtain ⟨q0, q1, q2, q3, q4, q5⟩ := HS0.out _ hSw; go_simp⟩) hS ?_
                  try simp only [Act.put, List.setIfInBounds_toArray, List.set_cons_zero, List.set_cons_succ]
                  refine wpAnyH_take (i := 23) (oi := { dst := some 198, op := Op.load 3 (Operand.tmp 197), type := 3, pos := "law.go:214", after := #[{ on := 22, ground := Ground.data }, { on := 17, ground := Ground.guard }], guard := some (17, false) }) (v := .int .i64 ((I : Int) + 1)) rfl (by kernel_rfl) (by kernel_rfl) (by kernel_rfl) (fun _ _ _ h => h) (Or.inl ⟨by rfl, fun w hSw => by obtain ⟨q0, q1, q2, q3, q4, q5⟩ := HS0.out _ hSw; go_simp⟩) hS ?_
                  try simp only [Act.put, List.setIfInBounds_toArray, List.set_cons_zero, List.set_cons_succ]
                  refine wpAnyH_take (i := 24) (oi := { dst := some 199, op := Op.binOp BinOp.sub 3 (Operand.tmp 198) (Operand.const (Value.int IntKind.i64 1)) 3, type := 3, pos := "law.go:214", after := #[{ on := 23, ground := Ground.data }, { on := 17, ground := Ground.guard }], guard := some (17, false) }) (v := .int .i64 (I : Int)) rfl (by kernel_rfl) (by kernel_rfl) (by kernel_rfl) (fun _ _ _ h => h) (Or.inl ⟨by rfl, fun w hSw => by obtain ⟨q0, q1, q2, q3, q4, q5⟩ := HS0.out _ hSw; go_simp⟩) hS ?_
                  try simp only [Act.put, List.setIfInBounds_toArray, List.set_cons_zero, List.set_cons_succ]
                  refine wpAnyH_take (i := 25) (oi := { dst := some 200, op := Op.indexAddr 24 (Operand.tmp 193) (Operand.tmp 199), type := 0, pos := "law.go:214", after := #[{ on := 18, ground := Ground.data }, { on := 24, ground := Ground.data }, { on := 17, ground := Ground.guard }], guard := some (17, false) }) (v := .pointer (some ⟨b1, o1 + I * 5, none⟩)) rfl (by kernel_rfl) (by kernel_rfl) (by kernel_rfl) (fun _ _ _ h => h) (Or.inl ⟨by rfl, fun w hSw => by obtain ⟨q0, q1, q2, q3, q4, q5⟩ := HS0.out _ hSw; go_simp⟩) hS ?_
                  try simp only [Act.put, List.setIfInBounds_toArray, List.set_cons_zero, List.set_cons_succ]
                  refine wpAnyH_take (i := 26) (oi := { dst := some 201, op := Op.fieldAddr 27 (Operand.tmp 200) 0, type := 0, pos := "law.go:214", after := #[{ on := 25, ground := Ground.data }, { on := 17, ground := Ground.guard }], guard := some (17, false) }) (v := .pointer (some ⟨b1, o1 + I * 5, none⟩)) rfl (by kernel_rfl) (by kernel_rfl) (by kernel_rfl) (fun _ _ _ h => h) (Or.inl ⟨by rfl, fun w hSw => by obtain ⟨q0, q1, q2, q3, q4, q5⟩ := HS0.out _ hSw; go_simp⟩) hS ?_
                  try simp only [Act.put, List.setIfInBounds_toArray, List.set_cons_zero, List.set_cons_succ]
                  refine wpAnyH_take (i := 27) (oi := { dst := some 202, op := Op.load 25 (Operand.tmp 201), type := 25, pos := "law.go:214", after := #[{ on := 26, ground := Ground.data }, { on := 17, ground := Ground.guard }], guard := some (17, false) }) (v := .int .u64 KA) rfl (by kernel_rfl) (by kernel_rfl) (by kernel_rfl) (fun _ _ _ h => h) (Or.inl ⟨by rfl, fun w hSw => by obtain ⟨q0, q1, q2, q3, q4, q5⟩ := HS0.out _ hSw; go_simp⟩) hS ?_
                  try simp only [Act.put, List.setIfInBounds_toArray, List.set_cons_zero, List.set_cons_succ]
                  refine wpAnyH_take (i := 28) (oi := { dst := some 203, op := Op.move (Operand.tmp 1), type := 24, pos := "law.go:214", after := #[{ on := 17, ground := Ground.guard }], guard := some (17, false) }) (v := .slice (some ⟨b1, o1, none⟩) n cap) rfl (by kernel_rfl) (by kernel_rfl) (by kernel_rfl) (fun _ _ _ h => h) (Or.inl ⟨by rfl, fun w hSw => by obtain ⟨q0, q1, q2, q3, q4, q5⟩ := HS0.out _ hSw; go_simp⟩) hS ?_
                  try simp only [Act.put, List.setIfInBounds_toArray, List.set_cons_zero, List.set_cons_succ]
                  refine wpAnyH_take (i := 29) (oi := { dst := some 204, op := Op.move (Operand.tmp 19), type := 36, pos := "law.go:214", after := #[{ on := 17, ground := Ground.guard }], guard := some (17, false) }) (v := .slice (some ⟨jb, 0, none⟩) jn jc) rfl (by kernel_rfl) (by kernel_rfl) (by kernel_rfl) (fun _ _ _ h => h) (Or.inl ⟨by rfl, fun w hSw => by obtain ⟨q0, q1, q2, q3, q4, q5⟩ := HS0.out _ hSw; go_simp⟩) hS ?_
                  try simp only [Act.put, List.setIfInBounds_toArray, List.set_cons_zero, List.set_cons_succ]
                  refine wpAnyH_take (i := 30) (oi := { dst := some 205, op := Op.move (Operand.tmp 20), type := 3, pos := "law.go:214", after := #[{ on := 17, ground := Ground.guard }], guard := some (17, false) }) (v := .int .i64 ((t : Int) + 1)) rfl (by kernel_rfl) (by kernel_rfl) (by kernel_rfl) (fun _ _ _ h => h) (Or.inl ⟨by rfl, fun w hSw => by obtain ⟨q0, q1, q2, q3, q4, q5⟩ := HS0.out _ hSw; go_simp⟩) hS ?_
                  try simp only [Act.put, List.setIfInBounds_toArray, List.set_cons_zero, List.set_cons_succ]
                  refine wpAnyH_take (i := 31) (oi := { dst := some 206, op := Op.indexAddr 36 (Operand.tmp 204) (Operand.tmp 205), type := 0, pos := "law.go:214", after := #[{ on := 29, ground := Ground.data }, { on := 30, ground := Ground.data }, { on := 17, ground := Ground.guard }], guard := some (17, false) }) (v := .pointer (some ⟨jb, t + 1, none⟩)) rfl (by kernel_rfl) (by kernel_rfl) (by kernel_rfl) (fun _ _ _ h => h) (Or.inl ⟨by rfl, fun w hSw => by obtain ⟨q0, q1, q2, q3, q4, q5⟩ := HS0.out _ hSw; go_simp⟩) hS ?_
                  try simp only [Act.put, List.setIfInBounds_toArray, List.set_cons_zero, List.set_cons_succ]
                  refine wpAnyH_take (i := 32) (oi := { dst := some 207, op := Op.load 3 (Operand.tmp 206), type := 3, pos := "law.go:214", after := #[{ on := 31, ground := Ground.data }, { on := 17, ground := Ground.guard }], guard := some (17, false) }) (v := .int .i64 ((J : Int) + 1)) rfl (by kernel_rfl) (by kernel_rfl) (by kernel_rfl) (fun _ _ _ h => h) (Or.inl ⟨by rfl, fun w hSw => by obtain ⟨q0, q1, q2, q3, q4, q5⟩ := HS0.out _ hSw; go_simp⟩) hS ?_
                  try simp only [Act.put, List.setIfInBounds_toArray, List.set_cons_zero, List.set_cons_succ]
                  refine wpAnyH_take (i := 33) (oi := { dst := some 208, op := Op.binOp BinOp.sub 3 (Operand.tmp 207) (Operand.const (Value.int IntKind.i64 1)) 3, type := 3, pos := "law.go:214", after := #[{ on := 32, ground := Ground.data }, { on := 17, ground := Ground.guard }], guard := some (17, false) }) (v := .int .i64 (J : Int)) rfl (by kernel_rfl) (by kernel_rfl) (by kernel_rfl) (fun _ _ _ h => h) (Or.inl ⟨by rfl, fun w hSw => by obtain ⟨q0, q1, q2, q3, q4, q5⟩ := HS0.out _ hSw; go_simp⟩) hS ?_
                  try simp only [Act.put, List.setIfInBounds_toArray, List.set_cons_zero, List.set_cons_succ]
                  refine wpAnyH_take (i := 34) (oi := { dst := some 209, op := Op.indexAddr 24 (Operand.tmp 203) (Operand.tmp 208), type := 0, pos := "law.go:214", after := #[{ on := 28, ground := Ground.data }, { on := 33, ground := Ground.data }, { on := 17, ground := Ground.guard }], guard := some (17, false) }) (v := .pointer (some ⟨b1, o1 + J * 5, none⟩)) rfl (by kernel_rfl) (by kernel_rfl) (by kernel_rfl) (fun _ _ _ h => h) (Or.inl ⟨by rfl, fun w hSw => by obtain ⟨q0, q1, q2, q3, q4, q5⟩ := HS0.out _ hSw; go_simp⟩) hS ?_
                  try simp only [Act.put, List.setIfInBounds_toArray, List.set_cons_zero, List.set_cons_succ]
                  refine wpAnyH_take (i := 35) (oi := { dst := some 210, op := Op.fieldAddr 27 (Operand.tmp 209) 0, type := 0, pos := "law.go:214", after := #[{ on := 34, ground := Ground.data }, { on := 17, ground := Ground.guard }], guard := some (17, false) }) (v := .pointer (some ⟨b1, o1 + J * 5, none⟩)) rfl (by kernel_rfl) (by kernel_rfl) (by kernel_rfl) (fun _ _ _ h => h) (Or.inl ⟨by rfl, fun w hSw => by obtain ⟨q0, q1, q2, q3, q4, q5⟩ := HS0.out _ hSw; go_simp⟩) hS ?_
                  try simp only [Act.put, List.setIfInBounds_toArray, List.set_cons_zero, List.set_cons_succ]
                  refine wpAnyH_take (i := 36) (oi := { dst := some 211, op := Op.load 25 (Operand.tmp 210), type := 25, pos := "law.go:214", after := #[{ on := 35, ground := Ground.data }, { on := 17, ground := Ground.guard }], guard := some (17, false) }) (v := .int .u64 KB) rfl (by kernel_rfl) (by kernel_rfl) (by kernel_rfl) (fun _ _ _ h => h) (Or.inl ⟨by rfl, fun w hSw => by obtain ⟨q0, q1, q2, q3, q4, q5⟩ := HS0.out _ hSw; go_simp⟩) hS ?_
                  try simp only [Act.put, List.setIfInBounds_toArray, List.set_cons_zero, List.set_cons_succ]
                  refine wpAnyH_take (i := 37) (oi := { dst := some 212, op := Op.binOp BinOp.geq 25 (Operand.tmp 202) (Operand.tmp 211) 25, type := 4, pos := "law.go:214", after := #[{ on := 27, ground := Ground.data }, { on := 36, ground := Ground.data }, { on := 17, ground := Ground.guard }], guard := some (17, false) }) (v := .bool false) rfl (by kernel_rfl) (by kernel_rfl) (by kernel_rfl) (fun _ _ _ h => h) (Or.inl ⟨by rfl, fun w hSw => by obtain ⟨q0, q1, q2, q3, q4, q5⟩ := HS0.out _ hSw; go_simp⟩) hS ?_
                  try simp only [Act.put, List.setIfInBounds_toArray, List.set_cons_zero, List.set_cons_succ]
                  refine wpAnyH_take (i := 38) (oi := { dst := some 213, op := Op.pick (Operand.tmp 192) (Operand.const (Value.bool true)) (Operand.tmp 212), type := 4, pos := "law.go:214", after := #[{ on := 17, ground := Ground.data }, { on := 37, ground := Ground.data }], guard := none }) (v := .bool false) rfl (by kernel_rfl) (by kernel_rfl) (by kernel_rfl) (fun _ _ _ h => h) (Or.inl ⟨by rfl, fun w hSw => by obtain ⟨q0, q1, q2, q3, q4, q5⟩ := HS0.out _ hSw; go_simp⟩) hS ?_
                  try simp only [Act.put, List.setIfInBounds_toArray, List.set_cons_zero, List.set_cons_succ]
                  refine wpAnyH_done (by kernel_rfl) ?_ _
                  have KR := hidOf (HKI.out.trans hS)
                  clear hS
                  go_wp2
                  go_roundw
                  case rel => exact ⟨t + 1, by go_num, by omega, KR.out⟩
                  case measure => simp [intOf]; omega
                · have HB11 := hidOf (And.intro (HB10.out.1.new HKI.out) HB10.out.2)
                  clear HB10 HKI HCL HJS
                  go_wp2
                  go_roundw
                  case rel => exact ⟨Lv + 1, by omega, by go_num, cnt4, a4, HB11.out.1, by have := HB11.out.2; omega, by have := HB11.out.2; omega⟩
                  case measure => simp [intOf]; omega
            · have HZ2 := hidOf (And.intro HZ.out.1 (show 0 ≤ cnt3 ∧ cnt3 ≤ 500 * i + 500 by have := HZ.out.2; omega))
              clear HZ
              go_wp2
              go_roundw
              case rel => exact ⟨i + 1, by omega, by go_num, fa2, fb2, g1, s1, g2, s2, cs, cnt3, a3, HZ2.out.1, HJ.out.2.2.2.1, HJ.out.2.2.2.2.1, HJ.out.2.2.2.2.2, HZ2.out.2.1, by have := HZ2.out.2.2; omega⟩
              case measure => simp [intOf]; omega
        | false =>
          go_wp2_with fail
          refine SP2.out.mono ?_
          rintro e w10 ⟨rfl, fnew, T2⟩
          have HJ0 : Hid (∃ fa2 fb2 g1 s1 g2 s2 cs cnt a, Tw U w10 ba fa2 ga g1 s1 bb fb2 gb g2 s2 m p r c cs cnt a ∧ 0 ≤ cnt ∧ cnt ≤ 500 * i + 1 ∧ Ri c l cs ∧ Rb l (k + 1) s1 ∧ Rb l (k2 + 1) s2) := hidOf (by
            obtain ⟨ri, r1, r2, n0, n1⟩ := HZ.out.2
            have RB := Rb.step HRR.out HL2.out.1 ri HZ.out.1.y.bi r2 cnt0 ga2
            exact ⟨_, fnew, _, _, _, _, _, _, _, T2.flip, by unfold bN; split <;> omega, by unfold bN; split <;> omega, RB.2, r1, RB.1⟩)
          clear T2 HZ SP1 SP2
          obtain ⟨fa2, fb2, g1, s1, g2, s2, cs, cnt, a, HJ1⟩ := HJ0.out
          have HJ := hidOf HJ1
          clear HJ0 HJ1
          have y3 := cell_of_blk (HX.out.1.kept HJ.out.1.x.fw.kp (by simp)) (i := 3) (v := .int .i64 c.h) rfl
          clear c3 l3 hltz
          go_wp2
          clear y3
          go_loopw [163, 18, 19, 20] (fun s163 _ _ _ wr => ∃ Lv : Nat, (Lv : Int) ≤ c.h ∧ s163 = .int .i64 Lv ∧ ∃ cnt a, Tw U wr ba fa2 ga g1 s1 bb fb2 gb g2 s2 m p r c cs cnt a ∧ 0 ≤ cnt ∧ cnt ≤ 500 * i + 1 + 70 * Lv) (fun s163 _ _ _ _ => (c.h - intOf s163).toNat)
          case atStart => exact ⟨0, by omega, by first | rfl | go_num, cnt, a, HJ.out.1, HJ.out.2.1, by have := HJ.out.2.2.1; omega⟩
          case round =>
            obtain ⟨Lv, hLv, rfl, cnt3, a3, Z, z0, z1⟩ := hrel
            have HZ := hidOf (And.intro Z (And.intro z0 z1))
            clear Z z0 z1
            by_cases hlv : (Lv : Int) < c.h
            · have hLH : Lv < HN c := by have := HHN.out; omega
              have LK := hidOf (linked_any wr m p r c cs cnt3 a3 Lv n (fun _ => False) (fun _ => True) HZ.out.1.x.fw.st.mm HZ.out.1.x.fw.st.tb RR0.out HZ.out.1.x.pr0.1 HZ.out.1.x.pr0.2 HNC.out hLH (by have z := HJ.out.2.2.2.1.chn hLH; rw [HL2.out.2.1] at z; exact z) HZ.out.2.1 (by have := HZ.out.2.2; omega))
              go_wp2_with fail
              refine LK.out.mono ?_
              rintro e w11 ⟨js, v, cnt4, a4, rfl, O, LS, M, d3, d4, K⟩
              obtain ⟨jo, jc, rfl, CL⟩ := own_i O
              have HB10 := hidOf (And.intro (HZ.out.1.mm M K (by have := HZ.out.2.1; omega)) (show 0 ≤ cnt4 ∧ cnt4 ≤ 500 * i + 1 + 70 * Lv + 70 by have := HZ.out.2; omega))
              rw [jsI_len] at CL ⊢
              obtain ⟨jn, hjn⟩ : ∃ jn, jn = js.length := ⟨_, rfl⟩
              rw [← hjn] at CL ⊢
              have HJS := hidOf (show ∀ t, t + 1 < jn → ∃ I J : Nat, js.getD t 0 = I + 1 ∧ js.getD (t + 1) 0 = J + 1 ∧ I < J ∧ J < n from fun t h => by
                have z1 := LS.nd _ (mem_getD.2 ⟨t, by omega, rfl⟩)
                have z2 := LS.nd _ (mem_getD.2 ⟨t + 1, by omega, rfl⟩)
                have z3 := LS.lt (i := t) (j := t + 1) (by omega) (by omega)
                exact ⟨js.getD t 0 - 1, js.getD (t + 1) 0 - 1, by omega, by omega, by omega, by omega⟩)
              have HCL := hidOf CL
              have jn64 : (jn : Int) ≤ 64 := by have := LS.len; omega
              clear LK O LS M d3 d4 K HZ hjn CL
              go_wp2
              go_loopw [20] (fun s20 wr => ∃ t : Nat, s20 = .int .i64 ((t : Int) + 1) ∧ (t ≤ jn) ∧ Kept [] w11 wr) (fun s20 _ => jn + 1 - (intOf s20).toNat)
              case atStart => exact ⟨0, by first | rfl | go_num, by omega, Kept.refl _ _⟩
              case round =>
                obtain ⟨t, rfl, ht, KI⟩ := hrel
                have HKI := hidOf KI
                clear KI
                by_cases htj : (t : Int) + 1 < (jn : Int)
                · obtain ⟨I, J, eI, eJ, hIJ, hJn⟩ := HJS.out t (by omega)
                  obtain ⟨jb, rfl, jl, jc0⟩ := HCL.out t (by omega)
                  obtain ⟨jb', e', jl', jc1⟩ := HCL.out (t + 1) (by omega)
                  cases e'
                  rw [jsI_get, eI] at jc0
                  rw [jsI_get, eJ] at jc1
                  have cI := (kept_cell HKI.out (b := jb) (o := t) jl).trans jc0
                  have cJ := (kept_cell HKI.out (b := jb) (o := t + 1) jl).trans jc1
                  have cl := Nat.lt_of_lt_of_le jl HKI.out.size
                  have kI := HKK.out I (by omega) wr (HB10.out.1.x.fw.kp.trans HKI.out)
                  have kJ := HKK.out J hJn wr (HB10.out.1.x.fw.kp.trans HKI.out)
                  have hKK := HUP.out I J hIJ hJn
                  obtain ⟨KA, hKA⟩ : ∃ x, x = (ns.getD I nn0).k := ⟨_, rfl⟩
                  obtain ⟨KB, hKB⟩ : ∃ x, x = (ns.getD J nn0).k := ⟨_, rfl⟩
                  rw [← hKA] at kI hKK
                  rw [← hKB] at kJ hKK
                  have n1 := kI.1
                  have n2 := kJ.1
                  have n3 := kI.2
                  clear jc0 jc1 jl jl' kI kJ hKA hKB eI eJ
                  have w1 : IntKind.i64.wrap (t : Int) = (t : Int) := by rw [IntKind.wrap_i64]; omega
                  have w1 : IntKind.i64.wrap (t : Int) = (t : Int) := by rw [IntKind.wrap_i64]; omega
                  have w2 : IntKind.i64.wrap (I : Int) = (I : Int) := by rw [IntKind.wrap_i64]; omega
                  have w3 : IntKind.i64.wrap (J : Int) = (J : Int) := by rw [IntKind.wrap_i64]; omega
                  rw [show (((I + 1 : Nat) : Int)) = (I : Int) + 1 by omega] at cI
                  rw [show (((J + 1 : Nat) : Int)) = (J : Int) + 1 by omega] at cJ
                  have HS0 : Hid (∀ W', Kept [] wr W' → W'.cell? ⟨jb, t, none⟩ = some (.int .i64 ((I : Int) + 1)) ∧ W'.cell? ⟨jb, t + 1, none⟩ = some (.int .i64 ((J : Int) + 1)) ∧ W'.cell? ⟨b1, o1 + I * 5, none⟩ = some (.int .u64 KA) ∧ W'.cell? ⟨b1, o1 + J * 5, none⟩ = some (.int .u64 KB) ∧ jb < W'.heap.size ∧ b1 < W'.heap.size) := hidOf (fun W' kk => by
                    have := kk.size
                    exact ⟨(kept_cell kk (b := jb) (o := t) cl).trans cI, (kept_cell kk (b := jb) (o := t + 1) cl).trans cJ, (kept_cell kk (b := b1) (o := o1 + I * 5) n3).trans n1, (kept_cell kk (b := b1) (o := o1 + J * 5) n3).trans n2, by omega, by omega⟩)
                  have b0 : ¬ (t : Int) + 1 < 0 := by omega
                  have htn : (t : Int) < (jn : Int) := by omega
                  have hIn : (I : Int) < (n : Int) := by omega
                  have hJn2 : (J : Int) < (n : Int) := by omega
                  have g1 : decide ((n : Int) < (J : Int) + 1) = false := by simp; omega
                  have g2 : decide ((n : Int) < (I : Int) + 1) = false := by simp; omega
                  have g3 : decide (KB ≤ KA) = false := by simp; omega
                  go_upto_region 25 with (fail)
                  refine wp_region_held_drew (S := fun w' => Kept [] wr w') (by kernel_rfl) (Kept.refl [] wr).drew (fun hS => ?_)
                  refine wpAnyH_take (i := 0) (oi := { dst := some 175, op := Op.move (Operand.tmp 19), type := 36, pos := "law.go:214", after := #[], guard := none }) (v := .slice (some ⟨jb, 0, none⟩) jn jc) rfl (by kernel_rfl) (by kernel_rfl) (by kernel_rfl) (fun _ _ _ h => h) (Or.inl ⟨by rfl, fun w hSw => by obtain ⟨q0, q1, q2, q3, q4, q5⟩ := HS0.out _ hSw; go_simp⟩) hS ?_
                  try simp only [Act.put, List.setIfInBounds_toArray, List.set_cons_zero, List.set_cons_succ]
                  refine wpAnyH_take (i := 1) (oi := { dst := some 176, op := Op.move (Operand.tmp 20), type := 3, pos := "law.go:214", after := #[], guard := none }) (v := .int .i64 ((t : Int) + 1)) rfl (by kernel_rfl) (by kernel_rfl) (by kernel_rfl) (fun _ _ _ h => h) (Or.inl ⟨by rfl, fun w hSw => by obtain ⟨q0, q1, q2, q3, q4, q5⟩ := HS0.out _ hSw; go_simp⟩) hS ?_
                  try simp only [Act.put, List.setIfInBounds_toArray, List.set_cons_zero, List.set_cons_succ]
                  refine wpAnyH_take (i := 2) (oi := { dst := some 177, op := Op.indexAddr 36 (Operand.tmp 175) (Operand.tmp 176), type := 0, pos := "law.go:214", after := #[{ on := 0, ground := Ground.data }, { on := 1, ground := Ground.data }], guard := none }) (v := .pointer (some ⟨jb, t + 1, none⟩)) rfl (by kernel_rfl) (by kernel_rfl) (by kernel_rfl) (fun _ _ _ h => h) (Or.inl ⟨by rfl, fun w hSw => by obtain ⟨q0, q1, q2, q3, q4, q5⟩ := HS0.out _ hSw; go_simp⟩) hS ?_
                  try simp only [Act.put, List.setIfInBounds_toArray, List.set_cons_zero, List.set_cons_succ]
                  refine wpAnyH_take (i := 3) (oi := { dst := some 178, op := Op.load 3 (Operand.tmp 177), type := 3, pos := "law.go:214", after := #[{ on := 2, ground := Ground.data }], guard := none }) (v := .int .i64 ((J : Int) + 1)) rfl (by kernel_rfl) (by kernel_rfl) (by kernel_rfl) (fun _ _ _ h => h) (Or.inl ⟨by rfl, fun w hSw => by obtain ⟨q0, q1, q2, q3, q4, q5⟩ := HS0.out _ hSw; go_simp⟩) hS ?_
                  try simp only [Act.put, List.setIfInBounds_toArray, List.set_cons_zero, List.set_cons_succ]
                  refine wpAnyH_take (i := 4) (oi := { dst := some 179, op := Op.move (Operand.tmp 1), type := 24, pos := "law.go:214", after := #[], guard := none }) (v := .slice (some ⟨b1, o1, none⟩) n cap) rfl (by kernel_rfl) (by kernel_rfl) (by kernel_rfl) (fun _ _ _ h => h) (Or.inl ⟨by rfl, fun w hSw => by obtain ⟨q0, q1, q2, q3, q4, q5⟩ := HS0.out _ hSw; go_simp⟩) hS ?_
                  try simp only [Act.put, List.setIfInBounds_toArray, List.set_cons_zero, List.set_cons_succ]
                  refine wpAnyH_take (i := 5) (oi := { dst := some 180, op := Op.call { callee := Callee.builtin Builtin.len, args := #[Operand.tmp 179], argTypes := #[24] }, type := 3, pos := "law.go:214", after := #[{ on := 4, ground := Ground.data }], guard := none }) (v := .int .i64 (n : Int)) rfl (by kernel_rfl) (by kernel_rfl) (by kernel_rfl) (fun _ _ _ h => h) (Or.inl ⟨by rfl, fun w hSw => by obtain ⟨q0, q1, q2, q3, q4, q5⟩ := HS0.out _ hSw; go_simp⟩) hS ?_
                  try simp only [Act.put, List.setIfInBounds_toArray, List.set_cons_zero, List.set_cons_succ]
                  refine wpAnyH_take (i := 6) (oi := { dst := some 181, op := Op.binOp BinOp.gtr 3 (Operand.tmp 178) (Operand.tmp 180) 3, type := 4, pos := "law.go:214", after := #[{ on := 3, ground := Ground.data }, { on := 5, ground := Ground.data }], guard := none }) (v := .bool false) rfl (by kernel_rfl) (by kernel_rfl) (by kernel_rfl) (fun _ _ _ h => h) (Or.inl ⟨by rfl, fun w hSw => by obtain ⟨q0, q1, q2, q3, q4, q5⟩ := HS0.out _ hSw; go_simp⟩) hS ?_
                  try simp only [Act.put, List.setIfInBounds_toArray, List.set_cons_zero, List.set_cons_succ]
                  refine wpAnyH_take (i := 7) (oi := { dst := some 182, op := Op.move (Operand.tmp 181), type := 4, pos := "law.go:214", after := #[{ on := 6, ground := Ground.data }], guard := none }) (v := .bool false) rfl (by kernel_rfl) (by kernel_rfl) (by kernel_rfl) (fun _ _ _ h => h) (Or.inl ⟨by rfl, fun w hSw => by obtain ⟨q0, q1, q2, q3, q4, q5⟩ := HS0.out _ hSw; go_simp⟩) hS ?_
                  try simp only [Act.put, List.setIfInBounds_toArray, List.set_cons_zero, List.set_cons_succ]
                  refine wpAnyH_take (i := 8) (oi := { dst := some 183, op := Op.move (Operand.tmp 19), type := 36, pos := "law.go:214", after := #[{ on := 7, ground := Ground.guard }], guard := some (7, false) }) (v := .slice (some ⟨jb, 0, none⟩) jn jc) rfl (by kernel_rfl) (by kernel_rfl) (by kernel_rfl) (fun _ _ _ h => h) (Or.inl ⟨by rfl, fun w hSw => by obtain ⟨q0, q1, q2, q3, q4, q5⟩ := HS0.out _ hSw; go_simp⟩) hS ?_
                  try simp only [Act.put, List.setIfInBounds_toArray, List.set_cons_zero, List.set_cons_succ]
                  refine wpAnyH_take (i := 9) (oi := { dst := some 184, op := Op.move (Operand.tmp 20), type := 3, pos := "law.go:214", after := #[{ on := 7, ground := Ground.guard }], guard := some (7, false) }) (v := .int .i64 ((t : Int) + 1)) rfl (by kernel_rfl) (by kernel_rfl) (by kernel_rfl) (fun _ _ _ h => h) (Or.inl ⟨by rfl, fun w hSw => by obtain ⟨q0, q1, q2, q3, q4, q5⟩ := HS0.out _ hSw; go_simp⟩) hS ?_
                  try simp only [Act.put, List.setIfInBounds_toArray, List.set_cons_zero, List.set_cons_succ]
                  refine wpAnyH_take (i := 10) (oi := { dst := some 185, op := Op.binOp BinOp.sub 3 (Operand.tmp 184) (Operand.const (Value.int IntKind.i64 1)) 3, type := 3, pos := "law.go:214", after := #[{ on := 9, ground := Ground.data }, { on := 7, ground := Ground.guard }], guard := some (7, false) }) (v := .int .i64 (t : Int)) rfl (by kernel_rfl) (by kernel_rfl) (by kernel_rfl) (fun _ _ _ h => h) (Or.inl ⟨by rfl, fun w hSw => by obtain ⟨q0, q1, q2, q3, q4, q5⟩ := HS0.out _ hSw; go_simp⟩) hS ?_
                  try simp only [Act.put, List.setIfInBounds_toArray, List.set_cons_zero, List.set_cons_succ]
                  refine wpAnyH_take (i := 11) (oi := { dst := some 186, op := Op.indexAddr 36 (Operand.tmp 183) (Operand.tmp 185), type := 0, pos := "law.go:214", after := #[{ on := 8, ground := Ground.data }, { on := 10, ground := Ground.data }, { on := 7, ground := Ground.guard }], guard := some (7, false) }) (v := .pointer (some ⟨jb, t, none⟩)) rfl (by kernel_rfl) (by kernel_rfl) (by kernel_rfl) (fun _ _ _ h => h) (Or.inl ⟨by rfl, fun w hSw => by obtain ⟨q0, q1, q2, q3, q4, q5⟩ := HS0.out _ hSw; go_simp⟩) hS ?_
                  try simp only [Act.put, List.setIfInBounds_toArray, List.set_cons_zero, List.set_cons_succ]
                  refine wpAnyH_take (i := 12) (oi := { dst := some 187, op := Op.load 3 (Operand.tmp 186), type := 3, pos := "law.go:214", after := #[{ on := 11, ground := Ground.data }, { on := 7, ground := Ground.guard }], guard := some (7, false) }) (v := .int .i64 ((I : Int) + 1)) rfl (by kernel_rfl) (by kernel_rfl) (by kernel_rfl) (fun _ _ _ h => h) (Or.inl ⟨by rfl, fun w hSw => by obtain ⟨q0, q1, q2, q3, q4, q5⟩ := HS0.out _ hSw; go_simp⟩) hS ?_
                  try simp only [Act.put, List.setIfInBounds_toArray, List.set_cons_zero, List.set_cons_succ]
                  refine wpAnyH_take (i := 13) (oi := { dst := some 188, op := Op.move (Operand.tmp 1), type := 24, pos := "law.go:214", after := #[{ on := 7, ground := Ground.guard }], guard := some (7, false) }) (v := .slice (some ⟨b1, o1, none⟩) n cap) rfl (by kernel_rfl) (by kernel_rfl) (by kernel_rfl) (fun _ _ _ h => h) (Or.inl ⟨by rfl, fun w hSw => by obtain ⟨q0, q1, q2, q3, q4, q5⟩ := HS0.out _ hSw; go_simp⟩) hS ?_
                  try simp only [Act.put, List.setIfInBounds_toArray, List.set_cons_zero, List.set_cons_succ]
                  refine wpAnyH_take (i := 14) (oi := { dst := some 189, op := Op.call { callee := Callee.builtin Builtin.len, args := #[Operand.tmp 188], argTypes := #[24] }, type := 3, pos := "law.go:214", after := #[{ on := 13, ground := Ground.data }, { on := 7, ground := Ground.guard }], guard := some (7, false) }) (v := .int .i64 (n : Int)) rfl (by kernel_rfl) (by kernel_rfl) (by kernel_rfl) (fun _ _ _ h => h) (Or.inl ⟨by rfl, fun w hSw => by obtain ⟨q0, q1, q2, q3, q4, q5⟩ := HS0.out _ hSw; go_simp⟩) hS ?_
                  try simp only [Act.put, List.setIfInBounds_toArray, List.set_cons_zero, List.set_cons_succ]
                  refine wpAnyH_take (i := 15) (oi := { dst := some 190, op := Op.binOp BinOp.gtr 3 (Operand.tmp 187) (Operand.tmp 189) 3, type := 4, pos := "law.go:214", after := #[{ on := 12, ground := Ground.data }, { on := 14, ground := Ground.data }, { on := 7, ground := Ground.guard }], guard := some (7, false) }) (v := .bool false) rfl (by kernel_rfl) (by kernel_rfl) (by kernel_rfl) (fun _ _ _ h => h) (Or.inl ⟨by rfl, fun w hSw => by obtain ⟨q0, q1, q2, q3, q4, q5⟩ := HS0.out _ hSw; go_simp⟩) hS ?_
                  try simp only [Act.put, List.setIfInBounds_toArray, List.set_cons_zero, List.set_cons_succ]
                  refine wpAnyH_take (i := 16) (oi := { dst := some 191, op := Op.pick (Operand.tmp 182) (Operand.const (Value.bool true)) (Operand.tmp 190), type := 4, pos := "law.go:214", after := #[{ on := 7, ground := Ground.data }, { on := 15, ground := Ground.data }], guard := none }) (v := .bool false) rfl (by kernel_rfl) (by kernel_rfl) (by kernel_rfl) (fun _ _ _ h => h) (Or.inl ⟨by rfl, fun w hSw => by obtain ⟨q0, q1, q2, q3, q4, q5⟩ := HS0.out _ hSw; go_simp⟩) hS ?_
                  try simp only [Act.put, List.setIfInBounds_toArray, List.set_cons_zero, List.set_cons_succ]
                  refine wpAnyH_take (i := 17) (oi := { dst := some 192, op := Op.move (Operand.tmp 191), type := 4, pos := "law.go:214", after := #[{ on := 16, ground := Ground.data }, { on := 7, ground := Ground.chain }], guard := none }) (v := .bool false) rfl (by kernel_rfl) (by kernel_rfl) (by kernel_rfl) (fun _ _ _ h => h) (Or.inl ⟨by rfl, fun w hSw => by obtain ⟨q0, q1, q2, q3, q4, q5⟩ := HS0.out _ hSw; go_simp⟩) hS ?_
                  try simp only [Act.put, List.setIfInBounds_toArray, List.set_cons_zero, List.set_cons_succ]
                  refine wpAnyH_take (i := 18) (oi := { dst := some 193, op := Op.move (Operand.tmp 1), type := 24, pos := "law.go:214", after := #[{ on := 17, ground := Ground.guard }], guard := some (17, false) }) (v := .slice (some ⟨b1, o1, none⟩) n cap) rfl (by kernel_rfl) (by kernel_rfl) (by kernel_rfl) (fun _ _ _ h => h) (Or.inl ⟨by rfl, fun w hSw => by obtain ⟨q0, q1, q2, q3, q4, q5⟩ := HS0.out _ hSw; go_simp⟩) hS ?_
                  try simp only [Act.put, List.setIfInBounds_toArray, List.set_cons_zero, List.set_cons_succ]
                  refine wpAnyH_take (i := 19) (oi := { dst := some 194, op := Op.move (Operand.tmp 19), type := 36, pos := "law.go:214", after := #[{ on := 17, ground := Ground.guard }], guard := some (17, false) }) (v := .slice (some ⟨jb, 0, none⟩) jn jc) rfl (by kernel_rfl) (by kernel_rfl) (by kernel_rfl) (fun _ _ _ h => h) (Or.inl ⟨by rfl, fun w hSw => by obtain ⟨q0, q1, q2, q3, q4, q5⟩ := HS0.out _ hSw; go_simp⟩) hS ?_
                  try simp only [Act.put, List.setIfInBounds_toArray, List.set_cons_zero, List.set_cons_succ]
                  refine wpAnyH_take (i := 20) (oi := { dst := some 195, op := Op.move (Operand.tmp 20), type := 3, pos := "law.go:214", after := #[{ on := 17, ground := Ground.guard }], guard := some (17, false) }) (v := .int .i64 ((t : Int) + 1)) rfl (by kernel_rfl) (by kernel_rfl) (by kernel_rfl) (fun _ _ _ h => h) (Or.inl ⟨by rfl, fun w hSw => by obtain ⟨q0, q1, q2, q3, q4, q5⟩ := HS0.out _ hSw; go_simp⟩) hS ?_
                  try simp only [Act.put, List.setIfInBounds_toArray, List.set_cons_zero, List.set_cons_succ]
                  refine wpAnyH_take (i := 21) (oi := { dst := some 196, op := Op.binOp BinOp.sub 3 (Operand.tmp 195) (Operand.const (Value.int IntKind.i64 1)) 3, type := 3, pos := "law.go:214", after := #[{ on := 20, ground := Ground.data }, { on := 17, ground := Ground.guard }], guard := some (17, false) }) (v := .int .i64 (t : Int)) rfl (by kernel_rfl) (by kernel_rfl) (by kernel_rfl) (fun _ _ _ h => h) (Or.inl ⟨by rfl, fun w hSw => by obtain ⟨q0, q1, q2, q3, q4, q5⟩ := HS0.out _ hSw; go_simp⟩) hS ?_
                  try simp only [Act.put, List.setIfInBounds_toArray, List.set_cons_zero, List.set_cons_succ]
                  refine wpAnyH_take (i := 22) (oi := { dst := some 197, op := Op.indexAddr 36 (Operand.tmp 194) (Operand.tmp 196), type := 0, pos := "law.go:214", after := #[{ on := 19, ground := Ground.data }, { on := 21, ground := Ground.data }, { on := 17, ground := Ground.guard }], guard := some (17, false) }) (v := .pointer (some ⟨jb, t, none⟩)) rfl (by kernel_rfl) (by kernel_rfl) (by kernel_rfl) (fun _ _ _ h => h) (Or.inl ⟨by rfl, fun w hSw => by obtain ⟨q0, q1, q2, q3, q4, q5⟩ := HS0.out _ hSw; go_simp⟩) hS ?_
                  try simp only [Act.put, List.setIfInBounds_toArray, List.set_cons_zero, List.set_cons_succ]
                  refine wpAnyH_take (i := 23) (oi := { dst := some 198, op := Op.load 3 (Operand.tmp 197), type := 3, pos := "law.go:214", after := #[{ on := 22, ground := Ground.data }, { on := 17, ground := Ground.guard }], guard := some (17, false) }) (v := .int .i64 ((I : Int) + 1)) rfl (by kernel_rfl) (by kernel_rfl) (by kernel_rfl) (fun _ _ _ h => h) (Or.inl ⟨by rfl, fun w hSw => by obtain ⟨q0, q1, q2, q3, q4, q5⟩ := HS0.out _ hSw; go_simp⟩) hS ?_
                  try simp only [Act.put, List.setIfInBounds_toArray, List.set_cons_zero, List.set_cons_succ]
                  refine wpAnyH_take (i := 24) (oi := { dst := some 199, op := Op.binOp BinOp.sub 3 (Operand.tmp 198) (Operand.const (Value.int IntKind.i64 1)) 3, type := 3, pos := "law.go:214", after := #[{ on := 23, ground := Ground.data }, { on := 17, ground := Ground.guard }], guard := some (17, false) }) (v := .int .i64 (I : Int)) rfl (by kernel_rfl) (by kernel_rfl) (by kernel_rfl) (fun _ _ _ h => h) (Or.inl ⟨by rfl, fun w hSw => by obtain ⟨q0, q1, q2, q3, q4, q5⟩ := HS0.out _ hSw; go_simp⟩) hS ?_
                  try simp only [Act.put, List.setIfInBounds_toArray, List.set_cons_zero, List.set_cons_succ]
                  refine wpAnyH_take (i := 25) (oi := { dst := some 200, op := Op.indexAddr 24 (Operand.tmp 193) (Operand.tmp 199), type := 0, pos := "law.go:214", after := #[{ on := 18, ground := Ground.data }, { on := 24, ground := Ground.data }, { on := 17, ground := Ground.guard }], guard := some (17, false) }) (v := .pointer (some ⟨b1, o1 + I * 5, none⟩)) rfl (by kernel_rfl) (by kernel_rfl) (by kernel_rfl) (fun _ _ _ h => h) (Or.inl ⟨by rfl, fun w hSw => by obtain ⟨q0, q1, q2, q3, q4, q5⟩ := HS0.out _ hSw; go_simp⟩) hS ?_
                  try simp only [Act.put, List.setIfInBounds_toArray, List.set_cons_zero, List.set_cons_succ]
                  refine wpAnyH_take (i := 26) (oi := { dst := some 201, op := Op.fieldAddr 27 (Operand.tmp 200) 0, type := 0, pos := "law.go:214", after := #[{ on := 25, ground := Ground.data }, { on := 17, ground := Ground.guard }], guard := some (17, false) }) (v := .pointer (some ⟨b1, o1 + I * 5, none⟩)) rfl (by kernel_rfl) (by kernel_rfl) (by kernel_rfl) (fun _ _ _ h => h) (Or.inl ⟨by rfl, fun w hSw => by obtain ⟨q0, q1, q2, q3, q4, q5⟩ := HS0.out _ hSw; go_simp⟩) hS ?_
                  try simp only [Act.put, List.setIfInBounds_toArray, List.set_cons_zero, List.set_cons_succ]
                  refine wpAnyH_take (i := 27) (oi := { dst := some 202, op := Op.load 25 (Operand.tmp 201), type := 25, pos := "law.go:214", after := #[{ on := 26, ground := Ground.data }, { on := 17, ground := Ground.guard }], guard := some (17, false) }) (v := .int .u64 KA) rfl (by kernel_rfl) (by kernel_rfl) (by kernel_rfl) (fun _ _ _ h => h) (Or.inl ⟨by rfl, fun w hSw => by obtain ⟨q0, q1, q2, q3, q4, q5⟩ := HS0.out _ hSw; go_simp⟩) hS ?_
                  try simp only [Act.put, List.setIfInBounds_toArray, List.set_cons_zero, List.set_cons_succ]
                  refine wpAnyH_take (i := 28) (oi := { dst := some 203, op := Op.move (Operand.tmp 1), type := 24, pos := "law.go:214", after := #[{ on := 17, ground := Ground.guard }], guard := some (17, false) }) (v := .slice (some ⟨b1, o1, none⟩) n cap) rfl (by kernel_rfl) (by kernel_rfl) (by kernel_rfl) (fun _ _ _ h => h) (Or.inl ⟨by rfl, fun w hSw => by obtain ⟨q0, q1, q2, q3, q4, q5⟩ := HS0.out _ hSw; go_simp⟩) hS ?_
                  try simp only [Act.put, List.setIfInBounds_toArray, List.set_cons_zero, List.set_cons_succ]
                  refine wpAnyH_take (i := 29) (oi := { dst := some 204, op := Op.move (Operand.tmp 19), type := 36, pos := "law.go:214", after := #[{ on := 17, ground := Ground.guard }], guard := some (17, false) }) (v := .slice (some ⟨jb, 0, none⟩) jn jc) rfl (by kernel_rfl) (by kernel_rfl) (by kernel_rfl) (fun _ _ _ h => h) (Or.inl ⟨by rfl, fun w hSw => by obtain ⟨q0, q1, q2, q3, q4, q5⟩ := HS0.out _ hSw; go_simp⟩) hS ?_
                  try simp only [Act.put, List.setIfInBounds_toArray, List.set_cons_zero, List.set_cons_succ]
                  refine wpAnyH_take (i := 30) (oi := { dst := some 205, op := Op.move (Operand.tmp 20), type := 3, pos := "law.go:214", after := #[{ on := 17, ground := Ground.guard }], guard := some (17, false) }) (v := .int .i64 ((t : Int) + 1)) rfl (by kernel_rfl) (by kernel_rfl) (by kernel_rfl) (fun _ _ _ h => h) (Or.inl ⟨by rfl, fun w hSw => by obtain ⟨q0, q1, q2, q3, q4, q5⟩ := HS0.out _ hSw; go_simp⟩) hS ?_
                  try simp only [Act.put, List.setIfInBounds_toArray, List.set_cons_zero, List.set_cons_succ]
                  refine wpAnyH_take (i := 31) (oi := { dst := some 206, op := Op.indexAddr 36 (Operand.tmp 204) (Operand.tmp 205), type := 0, pos := "law.go:214", after := #[{ on := 29, ground := Ground.data }, { on := 30, ground := Ground.data }, { on := 17, ground := Ground.guard }], guard := some (17, false) }) (v := .pointer (some ⟨jb, t + 1, none⟩)) rfl (by kernel_rfl) (by kernel_rfl) (by kernel_rfl) (fun _ _ _ h => h) (Or.inl ⟨by rfl, fun w hSw => by obtain ⟨q0, q1, q2, q3, q4, q5⟩ := HS0.out _ hSw; go_simp⟩) hS ?_
                  try simp only [Act.put, List.setIfInBounds_toArray, List.set_cons_zero, List.set_cons_succ]
                  refine wpAnyH_take (i := 32) (oi := { dst := some 207, op := Op.load 3 (Operand.tmp 206), type := 3, pos := "law.go:214", after := #[{ on := 31, ground := Ground.data }, { on := 17, ground := Ground.guard }], guard := some (17, false) }) (v := .int .i64 ((J : Int) + 1)) rfl (by kernel_rfl) (by kernel_rfl) (by kernel_rfl) (fun _ _ _ h => h) (Or.inl ⟨by rfl, fun w hSw => by obtain ⟨q0, q1, q2, q3, q4, q5⟩ := HS0.out _ hSw; go_simp⟩) hS ?_
                  try simp only [Act.put, List.setIfInBounds_toArray, List.set_cons_zero, List.set_cons_succ]
                  refine wpAnyH_take (i := 33) (oi := { dst := some 208, op := Op.binOp BinOp.sub 3 (Operand.tmp 207) (Operand.const (Value.int IntKind.i64 1)) 3, type := 3, pos := "law.go:214", after := #[{ on := 32, ground := Ground.data }, { on := 17, ground := Ground.guard }], guard := some (17, false) }) (v := .int .i64 (J : Int)) rfl (by kernel_rfl) (by kernel_rfl) (by kernel_rfl) (fun _ _ _ h => h) (Or.inl ⟨by rfl, fun w hSw => by obtain ⟨q0, q1, q2, q3, q4, q5⟩ := HS0.out _ hSw; go_simp⟩) hS ?_
                  try simp only [Act.put, List.setIfInBounds_toArray, List.set_cons_zero, List.set_cons_succ]
                  refine wpAnyH_take (i := 34) (oi := { dst := some 209, op := Op.indexAddr 24 (Operand.tmp 203) (Operand.tmp 208), type := 0, pos := "law.go:214", after := #[{ on := 28, ground := Ground.data }, { on := 33, ground := Ground.data }, { on := 17, ground := Ground.guard }], guard := some (17, false) }) (v := .pointer (some ⟨b1, o1 + J * 5, none⟩)) rfl (by kernel_rfl) (by kernel_rfl) (by kernel_rfl) (fun _ _ _ h => h) (Or.inl ⟨by rfl, fun w hSw => by obtain ⟨q0, q1, q2, q3, q4, q5⟩ := HS0.out _ hSw; go_simp⟩) hS ?_
                  try simp only [Act.put, List.setIfInBounds_toArray, List.set_cons_zero, List.set_cons_succ]
                  refine wpAnyH_take (i := 35) (oi := { dst := some 210, op := Op.fieldAddr 27 (Operand.tmp 209) 0, type := 0, pos := "law.go:214", after := #[{ on := 34, ground := Ground.data }, { on := 17, ground := Ground.guard }], guard := some (17, false) }) (v := .pointer (some ⟨b1, o1 + J * 5, none⟩)) rfl (by kernel_rfl) (by kernel_rfl) (by kernel_rfl) (fun _ _ _ h => h) (Or.inl ⟨by rfl, fun w hSw => by obtain ⟨q0, q1, q2, q3, q4, q5⟩ := HS0.out _ hSw; go_simp⟩) hS ?_
                  try simp only [Act.put, List.setIfInBounds_toArray, List.set_cons_zero, List.set_cons_succ]
                  refine wpAnyH_take (i := 36) (oi := { dst := some 211, op := Op.load 25 (Operand.tmp 210), type := 25, pos := "law.go:214", after := #[{ on := 35, ground := Ground.data }, { on := 17, ground := Ground.guard }], guard := some (17, false) }) (v := .int .u64 KB) rfl (by kernel_rfl) (by kernel_rfl) (by kernel_rfl) (fun _ _ _ h => h) (Or.inl ⟨by rfl, fun w hSw => by obtain ⟨q0, q1, q2, q3, q4, q5⟩ := HS0.out _ hSw; go_simp⟩) hS ?_
                  try simp only [Act.put, List.setIfInBounds_toArray, List.set_cons_zero, List.set_cons_succ]
                  refine wpAnyH_take (i := 37) (oi := { dst := some 212, op := Op.binOp BinOp.geq 25 (Operand.tmp 202) (Operand.tmp 211) 25, type := 4, pos := "law.go:214", after := #[{ on := 27, ground := Ground.data }, { on := 36, ground := Ground.data }, { on := 17, ground := Ground.guard }], guard := some (17, false) }) (v := .bool false) rfl (by kernel_rfl) (by kernel_rfl) (by kernel_rfl) (fun _ _ _ h => h) (Or.inl ⟨by rfl, fun w hSw => by obtain ⟨q0, q1, q2, q3, q4, q5⟩ := HS0.out _ hSw; go_simp⟩) hS ?_
                  try simp only [Act.put, List.setIfInBounds_toArray, List.set_cons_zero, List.set_cons_succ]
                  refine wpAnyH_take (i := 38) (oi := { dst := some 213, op := Op.pick (Operand.tmp 192) (Operand.const (Value.bool true)) (Operand.tmp 212), type := 4, pos := "law.go:214", after := #[{ on := 17, ground := Ground.data }, { on := 37, ground := Ground.data }], guard := none }) (v := .bool false) rfl (by kernel_rfl) (by kernel_rfl) (by kernel_rfl) (fun _ _ _ h => h) (Or.inl ⟨by rfl, fun w hSw => by obtain ⟨q0, q1, q2, q3, q4, q5⟩ := HS0.out _ hSw; go_simp⟩) hS ?_
                  try simp only [Act.put, List.setIfInBounds_toArray, List.set_cons_zero, List.set_cons_succ]
                  refine wpAnyH_done (by kernel_rfl) ?_ _
                  have KR := hidOf (HKI.out.trans hS)
                  clear hS
                  go_wp2
                  go_roundw
                  case rel => exact ⟨t + 1, by go_num, by omega, KR.out⟩
                  case measure => simp [intOf]; omega
                · have HB11 := hidOf (And.intro (HB10.out.1.new HKI.out) HB10.out.2)
                  clear HB10 HKI HCL HJS
                  go_wp2
                  go_roundw
                  case rel => exact ⟨Lv + 1, by omega, by go_num, cnt4, a4, HB11.out.1, by have := HB11.out.2; omega, by have := HB11.out.2; omega⟩
                  case measure => simp [intOf]; omega
            · have HZ2 := hidOf (And.intro HZ.out.1 (show 0 ≤ cnt3 ∧ cnt3 ≤ 500 * i + 500 by have := HZ.out.2; omega))
              clear HZ
              go_wp2
              go_roundw
              case rel => exact ⟨i + 1, by omega, by go_num, fa2, fb2, g1, s1, g2, s2, cs, cnt3, a3, HZ2.out.1, HJ.out.2.2.2.1, HJ.out.2.2.2.2.1, HJ.out.2.2.2.2.2, HZ2.out.2.1, by have := HZ2.out.2.2; omega⟩
              case measure => simp [intOf]; omega
      · have AL := hidOf (alive_any wr HZ.out.1.x.fw.st.tb)
        have KF := hidOf (HX.out.2.trans HZ.out.1.x.fw.kp)
        go_wp2_with fail
        refine AL.out.mono ?_
        rintro e w10 ⟨rfl, K10⟩
        have KR := hidOf (KF.out.trans K10)
        clear K10
        go_wp2
        go_ret
        exact ⟨rfl, KR.out⟩

set_option maxRecDepth 100000 in
theorem buildRises_lifted (os : Os) (started : os.Started) (H : Type) (enc : TypeId × Value → H) :
    ReturnsInHanded {} Tryd.checked os 6 .any (fun w args => (Rows.buildRisesSpec.pre enc Tryd.prog Tryd.f6 [] false w args ∧ laidMetH Tryd.prog laid1 w) ∧ sizedMet enc Tryd.prog Tryd.f6 (OpenSpec.ofChange Rows.buildRisesSpec) false w args)
      (Rows.buildRisesSpec.post enc Tryd.prog Tryd.f6 false true false false) := by
  refine returnsInHanded_of_change_and (C := Tryd.checked) (X := fun w _ => laidMetH Tryd.prog laid1 w) (fun _ _ _ hh h => h.of_heap hh) own started (by kernel_rfl) Tryd.func6
    (ChangeSpec.witness_shaped (enc := enc) (C := Tryd.checked) (os := os) (X := fun w _ => laidMetH Tryd.prog laid1 w) false (World.doorLaid Tryd.prog 400 os) #[.agg #[.int .i64 0, .int .i64 0, .int .i64 0, .int .i64 0, .int .i64 0, .int .i64 0, .int .i64 0], .slice none 0 0, .agg #[.int .i64 0, .int .i64 0, .slice none 0 0]] 8 rfl (World.shaped_of_RefB (by kernel_rfl) (by kernel_rfl)) (by kernel_rfl) (by kernel_rfl) (by kernel_rfl) (door_met os _)) ?_
  intro W base args ds gs before hval0 hW _ _ hL _
  have hval : ∀ (j : Nat) t v, Tryd.f6.params[j]? = some t → args[j]? = some v → Value.okWide Tryd.prog W .any base t v := hval0
  have hW' := hW
  obtain ⟨p, q, hA0, hV, rfl, _, _⟩ := hW
  have hA : DataW.TrodAll enc Tryd.prog W 0 (fun _ => true) true Tryd.f6.params.toList args.toList ds p := hA0
  rw [Tryd.params6] at hA hval
  clear hA0 hval0
  obtain ⟨v0, vs0, d0, ds0, p0, q0, hargs, rfl, rfl, h0, r0⟩ := trodAll_cons hA
  obtain ⟨v1, vs1, d1, ds1, p1, q1, rfl, rfl, rfl, h1, r1⟩ := trodAll_cons r0
  obtain ⟨v2, vs2, d2, ds2, p2, q2, rfl, rfl, rfl, h2, r2⟩ := trodAll_cons r1
  obtain ⟨rfl, rfl, rfl⟩ := trodAll_nil r2
  obtain rfl : args = #[v0, v1, v2] := by cases args; simp_all
  obtain ⟨rfl, rfl⟩ := trodVars_none hV
  have k0 := h0
  have k1 := h1
  have k2 := h2
  simp only [List.append_nil] at hW'
  have hlt0 : ∀ x ∈ p0, x.block < W.heap.size := fun x hx => hW'.lt x (by simp [hx])
  have hlt1 : ∀ x ∈ p1, x.block < W.heap.size := fun x hx => hW'.lt x (by simp [hx])
  have hlt2 : ∀ x ∈ p2, x.block < W.heap.size := fun x hx => hW'.lt x (by simp [hx])
  obtain ⟨c0, rfl, g0⟩ := open_cfg (hval 0 23 v0 rfl rfl) h0
  obtain ⟨ao1, cap1, ns1, rfl, s1, g1, n1⟩ := open_nodes2 (hval 1 24 v1 rfl rfl) h1
  obtain ⟨az2, bz2, lo2, lc2, ts2, rfl, t2⟩ := open_turns13 (hval 2 50 v2 rfl rfl) h2
  refine (buildRises_walk W c0 g0 ao1 ns1 cap1 s1 g1 n1 az2 bz2 lo2 ts2 lc2 t2 (tab_of_laid hL)).mono fun e W' ⟨he, hg⟩ => ?_
  subst he
  have hb := hg.below (by simp)
  exact ⟨_, rfl, _, _, _, [], _, [], hW', (trodAll_cons_mk (shut_bool Tryd.underlying4 _) trodAll_mk0), (trodAll_cons_mk (Below.trod laidOut (by kernel_rfl) (of_decide_eq_true (by kernel_rfl)) k0 hb hlt0) (trodAll_cons_mk (Below.trod laidOut (by kernel_rfl) (of_decide_eq_true (by kernel_rfl)) k1 hb hlt1) (trodAll_cons_mk (Below.trod laidOut (by kernel_rfl) (of_decide_eq_true (by kernel_rfl)) k2 hb hlt2) trodAll_mk0))), rfl, hb.frame _, fun h => by cases h⟩

theorem buildRises_over : Rows.BuildRisesSaid :=
  OpenClaim.holds_of_wide 6 Tryd.f6 rfl rfl rfl rfl rfl rfl rfl ⟨rfl, rfl, rfl, rfl, rfl⟩ rfl rfl rfl rfl rfl (by kernel_rfl) Tryd.func6 (by kernel_rfl)
    (of_decide_eq_true (by kernel_rfl)) (by unfold Func.isWrapper; first | (rw [if_pos (by decide +kernel)]; kernel_rfl) | (rw [if_neg (by decide +kernel)]; exact ⟨rfl, rfl⟩))
    (fun os started H enc _ => buildRises_lifted os started H enc)

theorem buildRises_holds : Rows.BuildRisesCardSaid :=
  Claim7.holds_tied_plain_at .later [] [.data] true (true, "7598bd54c92d53e360db6de8ec306489af839585ba1e399dd7dd108781c18b49") false
    buildRises_over (fun _ h => by cases h) (by kernel_rfl) (fun _ h => by cases h) buildRises_row_tie rfl ⟨rfl, rfl⟩ (by kernel_rfl) rfl
    (fun f fn hf hfn => by
      obtain rfl : f = 6 := Option.some.inj ((show Tryd.prog.funcNamed "stepstone/stepstonelaw13.BuildRises" = some 6 by kernel_rfl).symm.trans hf) |>.symm
      obtain rfl : fn = Tryd.f6 := (Option.some.inj (Tryd.func6.symm.trans hfn)).symm
      exact ⟨by kernel_rfl, fun j t ht => by
          rw [Tryd.params6] at ht
          rcases j with _ | j
          · have : t = 23 := by simpa using ht.symm
            subst this; exact (show Tryd.prog.wantsStandIn 23 = false by kernel_rfl)
          rcases j with _ | j
          · have : t = 24 := by simpa using ht.symm
            subst this; exact (show Tryd.prog.wantsStandIn 24 = false by kernel_rfl)
          rcases j with _ | j
          · have : t = 50 := by simpa using ht.symm
            subst this; exact (show Tryd.prog.wantsStandIn 50 = false by kernel_rfl)
          simp at ht⟩)
    (by kernel_rfl)
#print axioms buildRises_holds
end Go.Proofs.YtkjjieklccbmoaaDoor
