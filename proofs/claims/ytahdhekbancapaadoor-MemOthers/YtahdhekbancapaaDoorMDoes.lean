/-
  The law's own call of a world's words, of whatever kind.
-/
import Derived.Test.YtahdhekbancapaaDoorMNew
namespace Go.Proofs.YtahdhekbancapaaDoor
open Go.ChangeShapes Go.WideShapes Go.ChangeAt Go.RowKit
open Go.Deep
set_option maxRecDepth 100000
/-- A call that is asked for. -/
structure OpM where
  k : Int
  x : Int
  y : Int
  h : Int
  old : Int
  v : Int
  deriving Inhabited
def OpM.cells (o : OpM) : List Value := [.int .i64 o.k, .int .i64 o.x, .int .i64 o.y, .int .u64 o.h, .int .u64 o.old, .int .u64 o.v]
def OpM.val (o : OpM) : Value := .agg #[.int .i64 o.k, .int .i64 o.x, .int .i64 o.y, .int .u64 o.h, .int .u64 o.old, .int .u64 o.v]
def OpM.wf (o : OpM) : Prop := 0 ≤ o.h ∧ o.h < 18446744073709551616
/-- The access that it is. -/
def trO (c : Cfg) (o : OpM) : OpV := if o.k = 0 then ⟨1, (clV' c (ixV o.h) o.x), (plainV o.h), 0, 0⟩ else if o.k = 1 then ⟨2, (clV' c (ixV o.h) o.x), (plainV o.h), 0, o.v⟩ else if o.k = 2 then ⟨3, (clV' c (ixV o.h) o.x), (plainV o.h), o.old, o.v⟩ else if o.k = 3 then ⟨4, (clV' c (ixV o.h) o.x), (plainV o.h), 0, o.v⟩ else if o.k = 4 then ⟨1, 0, 0, 0, 0⟩ else if o.k = 5 then ⟨4, 0, 0, 0, 1⟩ else if o.k = 6 then ⟨2, (rsV c o.x o.y), 0, 0, o.v⟩ else if o.k = 7 then ⟨1, (rsV c o.x o.y), 0, 0, 0⟩ else if o.k = 8 then ⟨1, (clV' c o.x 0), 0, 0, 0⟩ else if o.k = 9 then ⟨3, (clV' c o.x 0), 0, o.old, o.v⟩ else if o.k = 10 then ⟨2, (clV' c o.x 0), 0, 0, o.v⟩ else ⟨0, 0, 0, 0, 0⟩
theorem ds1 (cs : List Int) (cnt : Int) (a : Acc) (X V : Int) : dsU cs ⟨1, X, V, 0, 0⟩ = (acV cs 1 X V 0 0).o ∧ dsB cs ⟨1, X, V, 0, 0⟩ = false ∧ dsC cs ⟨1, X, V, 0, 0⟩ = clV cs 1 X 0 0 ∧ dsN cnt ⟨1, X, V, 0, 0⟩ = cnt + 1 ∧ dsA cs a ⟨1, X, V, 0, 0⟩ = acV cs 1 X V 0 0 := ⟨rfl, rfl, rfl, rfl, rfl⟩
theorem ds2 (cs : List Int) (cnt : Int) (a : Acc) (X V v : Int) : dsU cs ⟨2, X, V, 0, v⟩ = 0 ∧ dsB cs ⟨2, X, V, 0, v⟩ = false ∧ dsC cs ⟨2, X, V, 0, v⟩ = clV cs 2 X 0 v ∧ dsN cnt ⟨2, X, V, 0, v⟩ = cnt + 1 ∧ dsA cs a ⟨2, X, V, 0, v⟩ = acV cs 2 X V 0 v := ⟨rfl, rfl, rfl, rfl, rfl⟩
theorem ds3 (cs : List Int) (cnt : Int) (a : Acc) (X V old v : Int) : dsU cs ⟨3, X, V, old, v⟩ = 0 ∧ dsB cs ⟨3, X, V, old, v⟩ = (acV cs 3 X V old v).d ∧ dsC cs ⟨3, X, V, old, v⟩ = clV cs 3 X old v ∧ dsN cnt ⟨3, X, V, old, v⟩ = cnt + 1 ∧ dsA cs a ⟨3, X, V, old, v⟩ = acV cs 3 X V old v := ⟨rfl, rfl, rfl, rfl, rfl⟩
theorem ds4 (cs : List Int) (cnt : Int) (a : Acc) (X V v : Int) : dsU cs ⟨4, X, V, 0, v⟩ = (acV cs 4 X V 0 v).o ∧ dsB cs ⟨4, X, V, 0, v⟩ = false ∧ dsC cs ⟨4, X, V, 0, v⟩ = clV cs 4 X 0 v ∧ dsN cnt ⟨4, X, V, 0, v⟩ = cnt + 1 ∧ dsA cs a ⟨4, X, V, 0, v⟩ = acV cs 4 X V 0 v := ⟨rfl, rfl, rfl, rfl, rfl⟩
theorem ds0 (cs : List Int) (cnt : Int) (a : Acc) : dsU cs ⟨0, 0, 0, 0, 0⟩ = 0 ∧ dsB cs ⟨0, 0, 0, 0, 0⟩ = false ∧ dsC cs ⟨0, 0, 0, 0, 0⟩ = cs ∧ dsN cnt ⟨0, 0, 0, 0, 0⟩ = cnt ∧ dsA cs a ⟨0, 0, 0, 0, 0⟩ = a := ⟨rfl, rfl, rfl, rfl, rfl⟩
set_option maxRecDepth 100000 in
set_option maxHeartbeats 2000000 in
theorem mdoes_any (m p r : Nat) (c : Cfg) (cs : List Int) (cnt : Int) (a : Acc) (o : OpM) (w : World) (hM : Mm w m p r c cs cnt a) (hT : Tab w) (hw : o.wf) (h0 : 0 ≤ cnt) (h1 : cnt < 4611686018427387904) :
    Calls Tryd.prog 19 #[.pointer (some ⟨m, 0, none⟩), o.val] w fun e w' => e = .returned (.tuple #[.int .u64 (dsU cs (trO c o)), .bool (dsB cs (trO c o))]) ∧ Mm w' m p r c (dsC cs (trO c o)) (dsN cnt (trO c o)) (dsA cs a (trO c o)) ∧ Kept [p, r] w w' := by
  obtain ⟨k, x, y, h, old, v⟩ := o
  obtain ⟨hh0, hh1⟩ := hw
  simp only at hh0 hh1
  have M0 : ∀ O : Obj, Mm (w.alloc O) m p r c cs cnt a := fun O => hM.new ((Kept.refl [] w).alloc O)
  have K0 : ∀ O : Obj, Kept [p, r] w (w.alloc O) := fun O => (Kept.refl _ w).alloc O
  have T0 : ∀ O : Obj, Tab (w.alloc O) := fun O => hT.kept ((Kept.refl [] w).alloc O)
  have M0 : Hid _ := M0
  have T0 : Hid _ := T0
  clear hT hM
  simp only [OpM.val]
  by_cases e0 : k = 0
  · subst e0
    rw [show trO c ⟨0, x, y, h, old, v⟩ = ⟨1, (clV' c (ixV h) x), (plainV h), 0, 0⟩ from rfl]
    obtain ⟨d1, d2, d3, d4, d5⟩ := ds1 cs cnt a (clV' c (ixV h) x) (plainV h)
    rw [d1, d2, d3, d4, d5]
    clear d1 d2 d3 d4 d5
    go_enter Tryd.func19, Tryd.ntmps19
    go_wp2_with fail
    refine (mload_any m p r c cs cnt a h x _ (by exact M0.out _) (by exact T0.out _) hh0 hh1 h0 h1).mono ?_
    rintro e w1 ⟨rfl, M1, K1⟩
    go_wp2
    go_ret2
    exact ⟨rfl, M1, (K0 _).trans K1⟩
  by_cases e1 : k = 1
  · subst e1
    rw [show trO c ⟨1, x, y, h, old, v⟩ = ⟨2, (clV' c (ixV h) x), (plainV h), 0, v⟩ from rfl]
    obtain ⟨d1, d2, d3, d4, d5⟩ := ds2 cs cnt a (clV' c (ixV h) x) (plainV h) v
    rw [d1, d2, d3, d4, d5]
    clear d1 d2 d3 d4 d5
    go_enter Tryd.func19, Tryd.ntmps19
    go_wp2_with fail
    refine (mstore_any m p r c cs cnt a h x v _ (by exact M0.out _) (by exact T0.out _) hh0 hh1 h0 h1).mono ?_
    rintro e w1 ⟨rfl, M1, K1⟩
    go_wp2
    go_ret2
    exact ⟨rfl, M1, (K0 _).trans K1⟩
  by_cases e2 : k = 2
  · subst e2
    rw [show trO c ⟨2, x, y, h, old, v⟩ = ⟨3, (clV' c (ixV h) x), (plainV h), old, v⟩ from rfl]
    obtain ⟨d1, d2, d3, d4, d5⟩ := ds3 cs cnt a (clV' c (ixV h) x) (plainV h) old v
    rw [d1, d2, d3, d4, d5]
    clear d1 d2 d3 d4 d5
    go_enter Tryd.func19, Tryd.ntmps19
    go_wp2_with fail
    refine (mswap_any m p r c cs cnt a h x old v _ (by exact M0.out _) (by exact T0.out _) hh0 hh1 h0 h1).mono ?_
    rintro e w1 ⟨rfl, M1, K1⟩
    go_wp2
    go_ret2
    exact ⟨rfl, M1, (K0 _).trans K1⟩
  by_cases e3 : k = 3
  · subst e3
    rw [show trO c ⟨3, x, y, h, old, v⟩ = ⟨4, (clV' c (ixV h) x), (plainV h), 0, v⟩ from rfl]
    obtain ⟨d1, d2, d3, d4, d5⟩ := ds4 cs cnt a (clV' c (ixV h) x) (plainV h) v
    rw [d1, d2, d3, d4, d5]
    clear d1 d2 d3 d4 d5
    go_enter Tryd.func19, Tryd.ntmps19
    go_wp2_with fail
    refine (madd_any m p r c cs cnt a h x v _ (by exact M0.out _) (by exact T0.out _) hh0 hh1 h0 h1).mono ?_
    rintro e w1 ⟨rfl, M1, K1⟩
    go_wp2
    go_ret2
    exact ⟨rfl, M1, (K0 _).trans K1⟩
  by_cases e4 : k = 4
  · subst e4
    rw [show trO c ⟨4, x, y, h, old, v⟩ = ⟨1, 0, 0, 0, 0⟩ from rfl]
    obtain ⟨d1, d2, d3, d4, d5⟩ := ds1 cs cnt a 0 0
    rw [d1, d2, d3, d4, d5]
    clear d1 d2 d3 d4 d5
    go_enter Tryd.func19, Tryd.ntmps19
    go_wp2_with fail
    refine (mclock_any m p r c cs cnt a  _ (by exact M0.out _) h0 h1).mono ?_
    rintro e w1 ⟨rfl, M1, K1⟩
    go_wp2
    go_ret2
    exact ⟨rfl, M1, (K0 _).trans K1⟩
  by_cases e5 : k = 5
  · subst e5
    rw [show trO c ⟨5, x, y, h, old, v⟩ = ⟨4, 0, 0, 0, 1⟩ from rfl]
    obtain ⟨d1, d2, d3, d4, d5⟩ := ds4 cs cnt a 0 0 1
    rw [d1, d2, d3, d4, d5]
    clear d1 d2 d3 d4 d5
    go_enter Tryd.func19, Tryd.ntmps19
    go_wp2_with fail
    refine (mtick_any m p r c cs cnt a  _ (by exact M0.out _) h0 h1).mono ?_
    rintro e w1 ⟨rfl, M1, K1⟩
    go_wp2
    go_ret2
    exact ⟨rfl, M1, (K0 _).trans K1⟩
  by_cases e6 : k = 6
  · subst e6
    rw [show trO c ⟨6, x, y, h, old, v⟩ = ⟨2, (rsV c x y), 0, 0, v⟩ from rfl]
    obtain ⟨d1, d2, d3, d4, d5⟩ := ds2 cs cnt a (rsV c x y) 0 v
    rw [d1, d2, d3, d4, d5]
    clear d1 d2 d3 d4 d5
    go_enter Tryd.func19, Tryd.ntmps19
    go_wp2_with fail
    refine (mreserve_any m p r c cs cnt a x y v _ (by exact M0.out _) h0 h1).mono ?_
    rintro e w1 ⟨rfl, M1, K1⟩
    go_wp2
    go_ret2
    exact ⟨rfl, M1, (K0 _).trans K1⟩
  by_cases e7 : k = 7
  · subst e7
    rw [show trO c ⟨7, x, y, h, old, v⟩ = ⟨1, (rsV c x y), 0, 0, 0⟩ from rfl]
    obtain ⟨d1, d2, d3, d4, d5⟩ := ds1 cs cnt a (rsV c x y) 0
    rw [d1, d2, d3, d4, d5]
    clear d1 d2 d3 d4 d5
    go_enter Tryd.func19, Tryd.ntmps19
    go_wp2_with fail
    refine (mreserved_any m p r c cs cnt a x y _ (by exact M0.out _) h0 h1).mono ?_
    rintro e w1 ⟨rfl, M1, K1⟩
    go_wp2
    go_ret2
    exact ⟨rfl, M1, (K0 _).trans K1⟩
  by_cases e8 : k = 8
  · subst e8
    rw [show trO c ⟨8, x, y, h, old, v⟩ = ⟨1, (clV' c x 0), 0, 0, 0⟩ from rfl]
    obtain ⟨d1, d2, d3, d4, d5⟩ := ds1 cs cnt a (clV' c x 0) 0
    rw [d1, d2, d3, d4, d5]
    clear d1 d2 d3 d4 d5
    go_enter Tryd.func19, Tryd.ntmps19
    go_wp2_with fail
    refine (mmeta_any m p r c cs cnt a x _ (by exact M0.out _) h0 h1).mono ?_
    rintro e w1 ⟨rfl, M1, K1⟩
    go_wp2
    go_ret2
    exact ⟨rfl, M1, (K0 _).trans K1⟩
  by_cases e9 : k = 9
  · subst e9
    rw [show trO c ⟨9, x, y, h, old, v⟩ = ⟨3, (clV' c x 0), 0, old, v⟩ from rfl]
    obtain ⟨d1, d2, d3, d4, d5⟩ := ds3 cs cnt a (clV' c x 0) 0 old v
    rw [d1, d2, d3, d4, d5]
    clear d1 d2 d3 d4 d5
    go_enter Tryd.func19, Tryd.ntmps19
    go_wp2_with fail
    refine (mtake_any m p r c cs cnt a x old v _ (by exact M0.out _) h0 h1).mono ?_
    rintro e w1 ⟨rfl, M1, K1⟩
    go_wp2
    go_ret2
    exact ⟨rfl, M1, (K0 _).trans K1⟩
  by_cases e10 : k = 10
  · subst e10
    rw [show trO c ⟨10, x, y, h, old, v⟩ = ⟨2, (clV' c x 0), 0, 0, v⟩ from rfl]
    obtain ⟨d1, d2, d3, d4, d5⟩ := ds2 cs cnt a (clV' c x 0) 0 v
    rw [d1, d2, d3, d4, d5]
    clear d1 d2 d3 d4 d5
    go_enter Tryd.func19, Tryd.ntmps19
    go_wp2_with fail
    refine (mrelease_any m p r c cs cnt a x v _ (by exact M0.out _) h0 h1).mono ?_
    rintro e w1 ⟨rfl, M1, K1⟩
    go_wp2
    go_ret2
    exact ⟨rfl, M1, (K0 _).trans K1⟩
  rw [show trO c ⟨k, x, y, h, old, v⟩ = ⟨0, 0, 0, 0, 0⟩ by simp only [trO]; rw [if_neg e0, if_neg e1, if_neg e2, if_neg e3, if_neg e4, if_neg e5, if_neg e6, if_neg e7, if_neg e8, if_neg e9, if_neg e10]]
  obtain ⟨d1, d2, d3, d4, d5⟩ := ds0 cs cnt a
  rw [d1, d2, d3, d4, d5]
  clear d1 d2 d3 d4 d5
  go_enter Tryd.func19, Tryd.ntmps19
  go_wp2
  go_ret2
  exact ⟨rfl, M0.out _, K0 _⟩
theorem flat_opm : flat Tryd.prog 3 54 = some [.int .i64, .int .i64, .int .i64, .int .u64, .int .u64, .int .u64] := by kernel_rfl
theorem opm_cells {cs : List Value} (hF : F2 [.int .i64, .int .i64, .int .i64, .int .u64, .int .u64, .int .u64] cs) : ∃ o : OpM, cs = o.cells ∧ o.wf := by
  obtain ⟨k, _, rfl, _, h⟩ := F2_int hF
  obtain ⟨x, _, rfl, _, h⟩ := F2_int h
  obtain ⟨y, _, rfl, _, h⟩ := F2_int h
  obtain ⟨hd, _, rfl, wh, h⟩ := F2_int h
  obtain ⟨old, _, rfl, _, h⟩ := F2_int h
  obtain ⟨v, _, rfl, _, h⟩ := F2_int h
  obtain rfl := F2_nil h
  exact ⟨⟨k, x, y, hd, old, v⟩, rfl, by have := bounds_u64 wh; exact ⟨this.1, by have := this.2; simp only; omega⟩⟩
theorem open_opm {H : Type} {enc : TypeId × Value → H} {w : World} {r : Reach} {b0 : Nat} {v : Value} {d : DataW H} {p : List MemPlace} (hv : Value.okWide Tryd.prog w r b0 54 v) (h : DataW.Trod enc Tryd.prog w 0 (fun _ => true) true 54 v d p) :
    ∃ o : OpM, v = o.val ∧ o.wf := by
  obtain ⟨cs, rfl, hF⟩ := flat_agg (Or.inl ⟨_, Tryd.underlying54⟩) flat_opm hv h
  obtain ⟨o, ho, hw⟩ := opm_cells hF
  exact ⟨o, by cases cs; simp only at ho; subst ho; rfl, hw⟩
end Go.Proofs.YtahdhekbancapaaDoor
