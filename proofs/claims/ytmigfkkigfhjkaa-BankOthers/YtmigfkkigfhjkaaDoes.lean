/-
  The law's own access to a bank, of whatever kind.
-/
import Derived.Test.YtmigfkkigfhjkaaRefBank
namespace Go.Proofs.Ytmigfkkigfhjkaa
open Go.ChangeShapes Go.WideShapes Go.ChangeAt Go.RowKit
open Go.Deep
/-- An access that is asked for. -/
structure OpV where
  k : Int
  c : Int
  via : Int
  old : Int
  v : Int
  deriving Inhabited
def OpV.cells (o : OpV) : List Value := [.int .i64 o.k, .int .i64 o.c, .int .u64 o.via, .int .u64 o.old, .int .u64 o.v]
def OpV.val (o : OpV) : Value := .agg #[.int .i64 o.k, .int .i64 o.c, .int .u64 o.via, .int .u64 o.old, .int .u64 o.v]
def isOp (k : Int) : Prop := k = 1 ∨ k = 2 ∨ k = 3 ∨ k = 4
instance (k : Int) : Decidable (isOp k) := by unfold isOp; infer_instance
/-- What it tells, and what it leaves: the cells, the count, the last access. -/
def opA (cs : List Int) (o : OpV) : Acc := acV cs o.k o.c o.via o.old o.v
def dsU (cs : List Int) (o : OpV) : Int := if o.k = 1 ∨ o.k = 4 then (opA cs o).o else 0
def dsB (cs : List Int) (o : OpV) : Bool := if o.k = 3 then (opA cs o).d else false
def dsC (cs : List Int) (o : OpV) : List Int := if isOp o.k then clV cs o.k o.c o.old o.v else cs
def dsN (cnt : Int) (o : OpV) : Int := if isOp o.k then cnt + 1 else cnt
def dsA (cs : List Int) (a : Acc) (o : OpV) : Acc := if isOp o.k then opA cs o else a
theorem acV_1 (cs : List Int) (c via old v : Int) : acV cs 1 c via old v = acV cs 1 c via 0 0 := by unfold acV; split <;> simp [bhV, bhB]
theorem acV_2 (cs : List Int) (c via old v : Int) : acV cs 2 c via old v = acV cs 2 c via 0 v := by unfold acV; split <;> simp [bhV, bhB]
theorem acV_4 (cs : List Int) (c via old v : Int) : acV cs 4 c via old v = acV cs 4 c via 0 v := by unfold acV; split <;> simp [bhV, bhB]
theorem clV_1 (cs : List Int) (c old v : Int) : clV cs 1 c old v = clV cs 1 c 0 0 := by unfold clV; split <;> simp [bhV]
theorem clV_2 (cs : List Int) (c old v : Int) : clV cs 2 c old v = clV cs 2 c 0 v := by unfold clV; split <;> simp [bhV]
theorem clV_4 (cs : List Int) (c old v : Int) : clV cs 4 c old v = clV cs 4 c 0 v := by unfold clV; split <;> simp [bhV]
theorem tupUB {a b : Int} {c d : Bool} (h : a = b) (k : c = d) : Ending.returned (.tuple #[.int .u64 a, .bool c]) = .returned (.tuple #[.int .u64 b, .bool d]) := by rw [h, k]
set_option maxRecDepth 100000 in
set_option maxHeartbeats 1000000 in
theorem does_any (p r : Nat) (cs : List Int) (cnt : Int) (a : Acc) (o : OpV) (w : World) (hB : Bk w p r cs cnt a) (h0 : 0 ≤ cnt) (h1 : cnt < 4611686018427387904) :
    Calls Try.prog 12 #[.pointer (some ⟨p, 0, none⟩), o.val] w fun e w' => e = .returned (.tuple #[.int .u64 (dsU cs o), .bool (dsB cs o)]) ∧ Bk w' p r (dsC cs o) (dsN cnt o) (dsA cs a o) ∧ Kept [p, r] w w' := by
  obtain ⟨k, c, via, old, v⟩ := o
  have B0 : ∀ O : Obj, Bk (w.alloc O) p r cs cnt a := fun O => hB.kept ((Kept.refl [] w).alloc O) (by simp) (by simp)
  have K0 : ∀ O : Obj, Kept [p, r] w (w.alloc O) := fun O => (Kept.refl _ w).alloc O
  by_cases e1 : k = 1
  · subst e1
    simp only [dsU, dsB, dsC, dsN, dsA, opA, isOp, OpV.val]
    simp (decide := true) only [if_true, if_false]
    rw [acV_1, clV_1]
    go_enter Try.func12, Try.ntmps12
    go_wp2_with fail
    refine (load_any p r cs cnt a c via _ (B0 _) h0 h1).mono ?_
    rintro e w1 ⟨rfl, B1, K1⟩
    go_wp2
    go_ret2
    exact ⟨rfl, B1, (K0 _).trans K1⟩
  by_cases e2 : k = 2
  · subst e2
    simp only [dsU, dsB, dsC, dsN, dsA, opA, isOp, OpV.val]
    simp (decide := true) only [if_true, if_false]
    rw [acV_2, clV_2]
    go_enter Try.func12, Try.ntmps12
    go_wp2_with fail
    refine (store_any p r cs cnt a c via v _ (B0 _) h0 h1).mono ?_
    rintro e w1 ⟨rfl, B1, K1⟩
    go_wp2
    go_ret2
    exact ⟨rfl, B1, (K0 _).trans K1⟩
  by_cases e3 : k = 3
  · subst e3
    simp only [dsU, dsB, dsC, dsN, dsA, opA, isOp, OpV.val]
    simp (decide := true) only [if_true, if_false]
    skip
    go_enter Try.func12, Try.ntmps12
    go_wp2_with fail
    refine (swap_any p r cs cnt a c via old v _ (B0 _) h0 h1).mono ?_
    rintro e w1 ⟨rfl, B1, K1⟩
    go_wp2
    go_ret2
    exact ⟨rfl, B1, (K0 _).trans K1⟩
  by_cases e4 : k = 4
  · subst e4
    simp only [dsU, dsB, dsC, dsN, dsA, opA, isOp, OpV.val]
    simp (decide := true) only [if_true, if_false]
    rw [acV_4, clV_4]
    go_enter Try.func12, Try.ntmps12
    go_wp2_with fail
    refine (add_any p r cs cnt a c via v _ (B0 _) h0 h1).mono ?_
    rintro e w1 ⟨rfl, B1, K1⟩
    go_wp2
    go_ret2
    exact ⟨rfl, B1, (K0 _).trans K1⟩
  · have hk : ¬ isOp k := by unfold isOp; omega
    simp only [dsU, dsB, dsC, dsN, dsA, OpV.val]
    rw [if_neg (show ¬ (k = 1 ∨ k = 4) by omega), if_neg e3, if_neg hk, if_neg hk, if_neg hk]
    clear hk
    go_enter Try.func12, Try.ntmps12
    go_wp2
    go_ret2
    exact ⟨rfl, B0 _, K0 _⟩
theorem flat_op : flat Try.prog 3 34 = some [.int .i64, .int .i64, .int .u64, .int .u64, .int .u64] := by kernel_rfl
theorem op_cells {cs : List Value} (hF : F2 [.int .i64, .int .i64, .int .u64, .int .u64, .int .u64] cs) : ∃ o : OpV, cs = o.cells := by
  obtain ⟨k, _, rfl, _, h⟩ := F2_int hF
  obtain ⟨c, _, rfl, _, h⟩ := F2_int h
  obtain ⟨via, _, rfl, _, h⟩ := F2_int h
  obtain ⟨old, _, rfl, _, h⟩ := F2_int h
  obtain ⟨v, _, rfl, _, h⟩ := F2_int h
  obtain rfl := F2_nil h
  exact ⟨⟨k, c, via, old, v⟩, rfl⟩
theorem open_op {H : Type} {enc : TypeId × Value → H} {w : World} {r : Reach} {b0 : Nat} {v : Value} {d : DataW H} {p : List MemPlace} (hv : Value.okWide Try.prog w r b0 34 v) (h : DataW.Trod enc Try.prog w 0 (fun _ => true) true 34 v d p) :
    ∃ o : OpV, v = o.val := by
  obtain ⟨cs, rfl, hF⟩ := flat_agg (Or.inl ⟨_, Try.underlying34⟩) flat_op hv h
  obtain ⟨o, ho⟩ := op_cells hF
  exact ⟨o, by cases cs; simp only at ho; subst ho; rfl⟩
end Go.Proofs.Ytmigfkkigfhjkaa
