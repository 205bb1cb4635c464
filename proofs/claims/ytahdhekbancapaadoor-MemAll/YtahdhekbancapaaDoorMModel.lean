/-
  The law's own call of the document's words, of whatever kind.
-/
import Derived.Test.YtahdhekbancapaaDoorMModel1
import Derived.Test.YtahdhekbancapaaDoorMModel2
import Derived.Test.YtahdhekbancapaaDoorMModel3
import Derived.Test.YtahdhekbancapaaDoorMModel4
import Derived.Test.YtahdhekbancapaaDoorMModel5
import Derived.Test.YtahdhekbancapaaDoorMRef
import Derived.Test.YtahdhekbancapaaDoorMRef1
import Derived.Test.YtahdhekbancapaaDoorMRef2
import Derived.Test.YtahdhekbancapaaDoorMRef3
import Derived.Test.YtahdhekbancapaaDoorMRef4
import Derived.Test.YtahdhekbancapaaDoorMRef5
namespace Go.Proofs.YtahdhekbancapaaDoor
open Go.ChangeShapes Go.WideShapes Go.ChangeAt Go.RowKit
open Go.Deep
set_option maxRecDepth 100000
set_option maxRecDepth 100000 in
set_option maxHeartbeats 2000000 in
theorem mmodel_any (c : Cfg) (g n cap : Nat) (cs : List Int) (cnt : Int) (a : Acc) (o : OpM) (w : World) (hR : RowR w g cs cap) (hn : n = cs.length) (hl : n ≤ 17592186044415) (hw : o.wf) (h0 : 0 ≤ cnt) (h1 : cnt < 4611686018427387904) :
    Calls Tryd.prog 20 #[rmV c (some ⟨g, 0, none⟩) n cap cnt a, o.val] w fun e w' =>
      ∃ g' c', e = .returned (.tuple #[rmV c (some ⟨g', 0, none⟩) n c' (dsN cnt (trO c o)) (dsA cs a (trO c o)), .int .u64 (dsU cs (trO c o)), .bool (dsB cs (trO c o))]) ∧ (g' = g ∨ w.heap.size ≤ g') ∧ RowR w' g' (dsC cs (trO c o)) c' ∧ Kept [] w w' := by
  obtain ⟨k, x, y, h, old, v⟩ := o
  obtain ⟨hh0, hh1⟩ := hw
  simp only at hh0 hh1
  subst hn
  by_cases e0 : k = 0
  · subst e0
    rw [show trO c ⟨0, x, y, h, old, v⟩ = ⟨1, (clV' c (ixV h) x), (plainV h), 0, 0⟩ from rfl]
    obtain ⟨d1, d2, d3, d4, d5⟩ := ds1 cs cnt a (clV' c (ixV h) x) (plainV h)
    rw [d1, d2, d3, d4, d5]
    exact model0 c g cs.length cap cnt a _ _ x y h old v w (show ∀ W' : World, _ from fun W' k => (qload_any c g cs cap cnt a h x W' (hR.kept k (by simp)) hl hh0 hh1 h0 h1).mono fun _ _ ⟨g', c', i1, i2, i3, i4⟩ => ⟨g', c', i1, i2.imp id (fun j => Nat.le_trans k.size j), i3, i4⟩)
  by_cases e1 : k = 1
  · subst e1
    rw [show trO c ⟨1, x, y, h, old, v⟩ = ⟨2, (clV' c (ixV h) x), (plainV h), 0, v⟩ from rfl]
    obtain ⟨d1, d2, d3, d4, d5⟩ := ds2 cs cnt a (clV' c (ixV h) x) (plainV h) v
    rw [d1, d2, d3, d4, d5]
    exact model1 c g cs.length cap cnt a _ _ x y h old v w (show ∀ W' : World, _ from fun W' k => (qstore_any c g cs cap cnt a h x v W' (hR.kept k (by simp)) hl hh0 hh1 h0 h1).mono fun _ _ ⟨g', c', i1, i2, i3, i4⟩ => ⟨g', c', i1, i2.imp id (fun j => Nat.le_trans k.size j), i3, i4⟩)
  by_cases e2 : k = 2
  · subst e2
    rw [show trO c ⟨2, x, y, h, old, v⟩ = ⟨3, (clV' c (ixV h) x), (plainV h), old, v⟩ from rfl]
    obtain ⟨d1, d2, d3, d4, d5⟩ := ds3 cs cnt a (clV' c (ixV h) x) (plainV h) old v
    rw [d1, d2, d3, d4, d5]
    exact model2 c g cs.length cap cnt a _ _ x y h old v w (show ∀ W' : World, _ from fun W' k => (qswap_any c g cs cap cnt a h x old v W' (hR.kept k (by simp)) hl hh0 hh1 h0 h1).mono fun _ _ ⟨g', c', i1, i2, i3, i4⟩ => ⟨g', c', i1, i2.imp id (fun j => Nat.le_trans k.size j), i3, i4⟩)
  by_cases e3 : k = 3
  · subst e3
    rw [show trO c ⟨3, x, y, h, old, v⟩ = ⟨4, (clV' c (ixV h) x), (plainV h), 0, v⟩ from rfl]
    obtain ⟨d1, d2, d3, d4, d5⟩ := ds4 cs cnt a (clV' c (ixV h) x) (plainV h) v
    rw [d1, d2, d3, d4, d5]
    exact model3 c g cs.length cap cnt a _ _ x y h old v w (show ∀ W' : World, _ from fun W' k => (qadd_any c g cs cap cnt a h x v W' (hR.kept k (by simp)) hl hh0 hh1 h0 h1).mono fun _ _ ⟨g', c', i1, i2, i3, i4⟩ => ⟨g', c', i1, i2.imp id (fun j => Nat.le_trans k.size j), i3, i4⟩)
  by_cases e4 : k = 4
  · subst e4
    rw [show trO c ⟨4, x, y, h, old, v⟩ = ⟨1, 0, 0, 0, 0⟩ from rfl]
    obtain ⟨d1, d2, d3, d4, d5⟩ := ds1 cs cnt a 0 0
    rw [d1, d2, d3, d4, d5]
    exact model4 c g cs.length cap cnt a _ _ x y h old v w (show ∀ W' : World, _ from fun W' k => (qclock_any c g cs cap cnt a  W' (hR.kept k (by simp)) hl h0 h1).mono fun _ _ ⟨g', c', i1, i2, i3, i4⟩ => ⟨g', c', i1, i2.imp id (fun j => Nat.le_trans k.size j), i3, i4⟩)
  by_cases e5 : k = 5
  · subst e5
    rw [show trO c ⟨5, x, y, h, old, v⟩ = ⟨4, 0, 0, 0, 1⟩ from rfl]
    obtain ⟨d1, d2, d3, d4, d5⟩ := ds4 cs cnt a 0 0 1
    rw [d1, d2, d3, d4, d5]
    exact model5 c g cs.length cap cnt a _ _ x y h old v w (show ∀ W' : World, _ from fun W' k => (qtick_any c g cs cap cnt a  W' (hR.kept k (by simp)) hl h0 h1).mono fun _ _ ⟨g', c', i1, i2, i3, i4⟩ => ⟨g', c', i1, i2.imp id (fun j => Nat.le_trans k.size j), i3, i4⟩)
  by_cases e6 : k = 6
  · subst e6
    rw [show trO c ⟨6, x, y, h, old, v⟩ = ⟨2, (rsV c x y), 0, 0, v⟩ from rfl]
    obtain ⟨d1, d2, d3, d4, d5⟩ := ds2 cs cnt a (rsV c x y) 0 v
    rw [d1, d2, d3, d4, d5]
    exact model6 c g cs.length cap cnt a _ _ x y h old v w (show ∀ W' : World, _ from fun W' k => (qreserve_any c g cs cap cnt a x y v W' (hR.kept k (by simp)) hl h0 h1).mono fun _ _ ⟨g', c', i1, i2, i3, i4⟩ => ⟨g', c', i1, i2.imp id (fun j => Nat.le_trans k.size j), i3, i4⟩)
  by_cases e7 : k = 7
  · subst e7
    rw [show trO c ⟨7, x, y, h, old, v⟩ = ⟨1, (rsV c x y), 0, 0, 0⟩ from rfl]
    obtain ⟨d1, d2, d3, d4, d5⟩ := ds1 cs cnt a (rsV c x y) 0
    rw [d1, d2, d3, d4, d5]
    exact model7 c g cs.length cap cnt a _ _ x y h old v w (show ∀ W' : World, _ from fun W' k => (qreserved_any c g cs cap cnt a x y W' (hR.kept k (by simp)) hl h0 h1).mono fun _ _ ⟨g', c', i1, i2, i3, i4⟩ => ⟨g', c', i1, i2.imp id (fun j => Nat.le_trans k.size j), i3, i4⟩)
  by_cases e8 : k = 8
  · subst e8
    rw [show trO c ⟨8, x, y, h, old, v⟩ = ⟨1, (clV' c x 0), 0, 0, 0⟩ from rfl]
    obtain ⟨d1, d2, d3, d4, d5⟩ := ds1 cs cnt a (clV' c x 0) 0
    rw [d1, d2, d3, d4, d5]
    exact model8 c g cs.length cap cnt a _ _ x y h old v w (show ∀ W' : World, _ from fun W' k => (qmeta_any c g cs cap cnt a x W' (hR.kept k (by simp)) hl h0 h1).mono fun _ _ ⟨g', c', i1, i2, i3, i4⟩ => ⟨g', c', i1, i2.imp id (fun j => Nat.le_trans k.size j), i3, i4⟩)
  by_cases e9 : k = 9
  · subst e9
    rw [show trO c ⟨9, x, y, h, old, v⟩ = ⟨3, (clV' c x 0), 0, old, v⟩ from rfl]
    obtain ⟨d1, d2, d3, d4, d5⟩ := ds3 cs cnt a (clV' c x 0) 0 old v
    rw [d1, d2, d3, d4, d5]
    exact model9 c g cs.length cap cnt a _ _ x y h old v w (show ∀ W' : World, _ from fun W' k => (qtake_any c g cs cap cnt a x old v W' (hR.kept k (by simp)) hl h0 h1).mono fun _ _ ⟨g', c', i1, i2, i3, i4⟩ => ⟨g', c', i1, i2.imp id (fun j => Nat.le_trans k.size j), i3, i4⟩)
  by_cases e10 : k = 10
  · subst e10
    rw [show trO c ⟨10, x, y, h, old, v⟩ = ⟨2, (clV' c x 0), 0, 0, v⟩ from rfl]
    obtain ⟨d1, d2, d3, d4, d5⟩ := ds2 cs cnt a (clV' c x 0) 0 v
    rw [d1, d2, d3, d4, d5]
    exact model10 c g cs.length cap cnt a _ _ x y h old v w (show ∀ W' : World, _ from fun W' k => (qrelease_any c g cs cap cnt a x v W' (hR.kept k (by simp)) hl h0 h1).mono fun _ _ ⟨g', c', i1, i2, i3, i4⟩ => ⟨g', c', i1, i2.imp id (fun j => Nat.le_trans k.size j), i3, i4⟩)
  rw [show trO c ⟨k, x, y, h, old, v⟩ = ⟨0, 0, 0, 0, 0⟩ by simp only [trO]; rw [if_neg e0, if_neg e1, if_neg e2, if_neg e3, if_neg e4, if_neg e5, if_neg e6, if_neg e7, if_neg e8, if_neg e9, if_neg e10]]
  obtain ⟨d1, d2, d3, d4, d5⟩ := ds0 cs cnt a
  rw [d1, d2, d3, d4, d5]
  exact modelN c g cs.length cap cs cnt a k x y h old v w hR e0 e1 e2 e3 e4 e5 e6 e7 e8 e9 e10
end Go.Proofs.YtahdhekbancapaaDoor
