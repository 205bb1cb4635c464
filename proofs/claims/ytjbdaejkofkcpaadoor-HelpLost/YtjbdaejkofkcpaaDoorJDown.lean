/-
  Arguments: nodes that are laid; a find's play; ahead of which steps the clock goes on.
  The arguments of the laws that are structs: whose step comes, what is written.
  Two helps of one node over the same words; new ones, one behind the other.
  Nodes that were laid: how tall each is, and its marks.
-/
import Derived.Test.YtjbdaejkofkcpaaDoorFLaid
import Derived.Test.YtjbdaejkofkcpaaDoorOpen
import Derived.Test.YtjbdaejkofkcpaaDoorJHelp
import Derived.Test.YtjbdaejkofkcpaaDoorFLayW
import Derived.Test.YtjbdaejkofkcpaaDoorMNew
namespace Go.Proofs.YtjbdaejkofkcpaaDoor
set_option maxRecDepth 100000
open Go.ChangeShapes Go.WideShapes Go.ChangeAt Go.RowKit
open Go.Deep
namespace K
section
variable {H : Type} {enc : TypeId × Value → H} {w : World}
theorem open_slice_cells {α : Type} (x0 : α) {n fuel : Nat} {t e : TypeId} {cs : List Value} {x : DataW H × List MemPlace} {ks : List Lk} (f : α → List Value) (G : α → Prop) (ht : Tryd.prog.underlying t = some (.slice e)) (hf : flat Tryd.prog n e = some ks) (hc : Tryd.prog.cellsOf e = ks.length)
    (hpos : 0 < ks.length) (hG : ∀ cs, F2 ks cs → ∃ x, cs = f x ∧ G x) (hd : DataW.trod enc Tryd.prog w 0 (fun _ => true) true fuel t cs = some x) :
    ∃ ao cap xs, cs = [.slice ao (List.length xs) cap] ∧ SlOf ks.length f w ao xs ∧ (∀ x ∈ xs, G x) := by
  have : Inhabited α := ⟨x0⟩
  rcases Deep.open_slice ht hd with ⟨hcs, hx⟩ | ⟨ad, len, cap, m, n', D, Pl, hcs, hb, hl, hm, hmm, hx, hall⟩
  · exact ⟨none, 0, [], hcs, fun h => absurd h (by simp), by simp⟩
  · have hml : len ≤ m := by rw [hmm]; split <;> omega
    have each : ∀ i, i < len → ∃ x : α, (G x ∧ (f x).length = ks.length) ∧ ∀ j v, (f x)[j]? = some v → w.cell? (ad.add (i * ks.length + j)) = some v := by
      intro i hi
      obtain ⟨cs', h1, h2⟩ := hall i (by omega)
      have hF := flat_trod n hf h2
      obtain ⟨x, rfl, hg⟩ := hG cs' hF
      refine ⟨x, ⟨hg, (F2_length hF).symm⟩, fun j v hj => ?_⟩
      rw [hc] at h1
      have h3 := (World.cells?_some h1).2.2 j (by rw [F2_length hF]; exact (List.getElem?_eq_some_iff.1 hj).1)
      rw [hj, Deep.add_add] at h3
      exact h3
    obtain ⟨X, hX⟩ := choose_lt each
    have hlenX : ((List.range len).map X).length = len := by simp
    refine ⟨some ad, cap, (List.range len).map X, by rw [hlenX]; exact hcs, ?_, ?_⟩
    · intro h0
      rw [hlenX] at h0
      obtain ⟨b, off, spot⟩ := ad
      have c0 : ∃ v, (f (X 0))[0]? = some v := ⟨_, List.getElem?_eq_getElem (by have := (hX 0 h0).1.2; omega)⟩
      obtain ⟨v0, hv0⟩ := c0
      have hc0 := (hX 0 h0).2 0 v0 hv0
      have hspot : spot = none := by
        have := World.cell?_spot hc0
        rw [Nat.zero_mul] at this; simpa [Addr.add] using this
      subst hspot
      refine ⟨b, off, rfl, ?_, fun i hi j v hj => ?_⟩
      · have := lt_of_cell hc0; rwa [add_block] at this
      · rw [hlenX] at hi
        have := (hX i hi).2 j v (by simpa using hj)
        rw [add_plain] at this
        rw [Nat.add_assoc]; exact this
    · intro x hx; obtain ⟨i, hi, rfl⟩ := List.mem_map.1 hx; exact (hX i (by simpa using hi)).1.1
theorem flat_nn : flat Tryd.prog 3 72 = some [.int .u64, .int .u64, .int .i64, .int .i64, .bool] := by kernel_rfl
theorem cells_nn : Tryd.prog.cellsOf 72 = 5 := by kernel_rfl
theorem nn_cells {cs : List Value} (h : F2 [.int .u64, .int .u64, .int .i64, .int .i64, .bool] cs) : ∃ p : Nn, cs = nnL p ∧ p.wf := by
  obtain ⟨a0, r, rfl, w0, h⟩ := F2_int h
  obtain ⟨a1, r, rfl, w1, h⟩ := F2_int h
  obtain ⟨a2, r, rfl, _, h⟩ := F2_int h
  obtain ⟨a3, r, rfl, _, h⟩ := F2_int h
  obtain ⟨a4, r5, e5, h5⟩ := F2_bool h
  subst e5
  obtain rfl := F2_nil h5
  have b0 := bounds_u64 w0
  have b1 := bounds_u64 w1
  refine ⟨⟨a0, a1, a2, a3, a4⟩, rfl, ?_⟩
  unfold Nn.wf
  show (0 ≤ a0 ∧ a0 < 18446744073709551616) ∧ 0 ≤ a1 ∧ a1 < 18446744073709551616
  omega
theorem open_nodes {r : Reach} {b0 : Nat} {v : Value} {d : DataW H} {p : List MemPlace} (hv : Value.okWide Tryd.prog w r b0 65 v) (h : DataW.Trod enc Tryd.prog w 0 (fun _ => true) true 65 v d p) :
    ∃ (ao : Option Addr) (cap : Nat) (ns : List Nn), v = .slice ao (List.length ns) cap ∧ SlOf 5 nnL w ao ns ∧ (∀ x ∈ ns, x.wf) := by
  have : Inhabited Nn := ⟨nn0⟩
  obtain ⟨ao, cap, xs, e, S, G, _⟩ := open_slice_of (ks := [.int .u64, .int .u64, .int .i64, .int .i64, .bool]) nnL Nn.wf Tryd.underlying65 flat_nn cells_nn (by decide) (fun cs hF => nn_cells hF) hv h
  exact ⟨ao, cap, xs, e, S, G⟩
/-- Ahead of which steps the clock goes on. -/
def iwC (x : Int) : List Value := [.int .i64 x]
theorem flat_iw : flat Tryd.prog 3 3 = some [.int .i64] := by kernel_rfl
theorem cells_iw : Tryd.prog.cellsOf 3 = 1 := by kernel_rfl
theorem iw_cells {cs : List Value} (h : F2 [.int .i64] cs) : ∃ p : Int, cs = iwC p ∧ True := by
  obtain ⟨a0, r, rfl, w0, h⟩ := F2_int h
  obtain rfl := F2_nil h
  exact ⟨a0, rfl, trivial⟩
def tkA (k : Int) (ao : Option Addr) (n cap : Nat) : Array Value := #[.int .u64 k, .slice ao n cap]
/-- What is written meanwhile. -/
structure Pk where
  s : Int
  c : Int
  v : Int
def pkL (p : Pk) : List Value := [.int .i64 p.s, .int .i64 p.c, .int .u64 p.v]
def pk0 : Pk := ⟨0, 0, 0⟩
theorem flat_pk : flat Tryd.prog 3 88 = some [.int .i64, .int .i64, .int .u64] := by kernel_rfl
theorem cells_pk : Tryd.prog.cellsOf 88 = 3 := by kernel_rfl
def Pk.wf (p : Pk) : Prop := 0 ≤ p.v ∧ p.v < 18446744073709551616
theorem pk_cells {cs : List Value} (h : F2 [.int .i64, .int .i64, .int .u64] cs) : ∃ p : Pk, cs = pkL p ∧ p.wf := by
  obtain ⟨a0, r, rfl, _, h⟩ := F2_int h
  obtain ⟨a1, r, rfl, _, h⟩ := F2_int h
  obtain ⟨a2, r, rfl, w2, h⟩ := F2_int h
  obtain rfl := F2_nil h
  have := bounds_u64 w2
  exact ⟨⟨a0, a1, a2⟩, rfl, by unfold Pk.wf; show 0 ≤ a2 ∧ a2 < 18446744073709551616; omega⟩
/-- A key, a thread, how many steps, and what is written. -/
def plA (k t st : Int) (ao : Option Addr) (n cap : Nat) : Array Value := #[.int .u64 k, .int .i64 t, .int .i64 st, .slice ao n cap]
end
end K
end Go.Proofs.YtjbdaejkofkcpaaDoor
namespace Go.Proofs.YtjbdaejkofkcpaaDoor
open Go.ChangeShapes Go.WideShapes Go.ChangeAt Go.RowKit
open Go.Deep
namespace K
set_option maxRecDepth 100000
variable {w : World} {H : Type} {enc : TypeId × Value → H}
def boC (x : Bool) : List Value := [.bool x]
theorem flat_bo : flat Tryd.prog 3 4 = some [.bool] := by kernel_rfl
theorem cells_bo : Tryd.prog.cellsOf 4 = 1 := by kernel_rfl
theorem bo_cells {cs : List Value} (h : F2 [.bool] cs) : ∃ p : Bool, cs = boC p ∧ True := by
  obtain ⟨a0, r, rfl, h2⟩ := F2_bool h
  obtain rfl := F2_nil h2
  exact ⟨a0, rfl, trivial⟩
def uwC (x : Int) : List Value := [.int .u64 x]
theorem flat_uw : flat Tryd.prog 3 25 = some [.int .u64] := by kernel_rfl
theorem cells_uw : Tryd.prog.cellsOf 25 = 1 := by kernel_rfl
theorem uw_cells {cs : List Value} (h : F2 [.int .u64] cs) : ∃ p : Int, cs = uwC p ∧ isW p := by
  obtain ⟨a0, r, rfl, w0, h⟩ := F2_int h
  obtain rfl := F2_nil h
  have := bounds_u64 w0
  exact ⟨a0, rfl, by unfold isW; omega⟩
theorem bo_row {w : World} {ao : Option Addr} {ts : List Bool} (h : SlOf 1 boC w ao ts) {k : Nat} (hk : k < ts.length) : ∃ b off, ao = some ⟨b, off, none⟩ ∧ b < w.heap.size ∧ w.cell? ⟨b, off + k, none⟩ = some (.bool (ts.getD k false)) := by
  obtain ⟨b, off, rfl, hb, hc⟩ := h (by omega)
  have e : ts.getD k false = ts[k] := by simp [hk]
  rw [e]
  have := hc k hk 0 _ rfl
  rw [Nat.mul_one, Nat.add_zero] at this
  exact ⟨b, off, rfl, hb, this⟩
theorem uw_row {w : World} {ao : Option Addr} {ts : List Int} (h : SlOf 1 uwC w ao ts) {k : Nat} (hk : k < ts.length) : ∃ b off, ao = some ⟨b, off, none⟩ ∧ b < w.heap.size ∧ w.cell? ⟨b, off + k, none⟩ = some (.int .u64 (ts.getD k 0)) := by
  obtain ⟨b, off, rfl, hb, hc⟩ := h (by omega)
  have e : ts.getD k 0 = ts[k] := by simp [hk]
  rw [e]
  have := hc k hk 0 _ rfl
  rw [Nat.mul_one, Nat.add_zero] at this
  exact ⟨b, off, rfl, hb, this⟩
def tuA (h : Int) (ao : Option Addr) (n cap : Nat) : Array Value := #[.int .u64 h, .slice ao n cap]
theorem isT_tu : IsT 63 2 := ⟨by kernel_rfl, _, Tryd.underlying63⟩
def loA (k : Int) (ao : Option Addr) (n cap : Nat) : Array Value := #[.int .i64 k, .slice ao n cap]
theorem isT_lo : IsT 76 2 := ⟨by kernel_rfl, _, Tryd.underlying76⟩
def hpA (h st : Int) (ao : Option Addr) (n cap : Nat) : Array Value := #[.int .u64 h, .int .i64 st, .slice ao n cap]
theorem isT_hp : IsT 28 3 := ⟨by kernel_rfl, _, Tryd.underlying28⟩
theorem open_turns {r : Reach} {b0 : Nat} {v : Value} {d : DataW H} {p : List MemPlace} (hv : Value.okWide Tryd.prog w r b0 63 v) (h : DataW.Trod enc Tryd.prog w 0 (fun _ => true) true 63 v d p) :
    ∃ (h : Int) (ao : Option Addr) (cap : Nat) (ts : List Bool), v = .agg (tuA h ao (List.length ts) cap) ∧ isW h ∧ SlOf 1 boC w ao ts := by
  obtain ⟨cs, rfl, hsz⟩ := okWide_struct Tryd.underlying63 hv
  obtain ⟨fuel, h⟩ := h
  have h' : DataW.trod enc Tryd.prog w 0 (fun _ => true) true fuel 63 cs.toList = some (d, p) := by simpa [Value.cells] using h
  obtain ⟨xs, m, _, _, hlen, hxl, hx⟩ := DataW.trod_struct Tryd.underlying63 h'
  have cc : Tryd.prog.cellsOf 63 = 2 := by kernel_rfl
  have w0 : Tryd.prog.cellsOf 25 = 1 := by kernel_rfl
  have w1 : Tryd.prog.cellsOf 61 = 1 := by kernel_rfl
  rw [cc] at hlen
  have hxl3 : xs.length = 2 := hxl
  have x0 := hx 0 _ rfl
  have x1 := hx 1 _ rfl
  rw [List.getElem?_eq_getElem (by omega)] at x0 x1
  obtain ⟨k, e0, b0⟩ := DataW.trod_int Tryd.underlying25 x0
  obtain ⟨ao, cap, ks, e1, S, G⟩ := open_slice_cells true (ks := [.bool]) boC (fun _ => True) Tryd.underlying61 flat_bo cells_bo (by decide) (fun cs hF => bo_cells hF) x1
  change List.take (Tryd.prog.cellsOf 25) (List.drop 0 cs.toList) = _ at e0
  change List.take (Tryd.prog.cellsOf 61) (List.drop 1 cs.toList) = _ at e1
  rw [w0] at e0
  rw [w1] at e1
  refine ⟨k, ao, cap, ks, ?_, ?_, S⟩
  · match hcs : cs.toList, hlen with
    | [a, b], _ =>
      rw [hcs] at e0 e1
      simp at e0 e1
      subst e0 e1
      rw [show cs = cs.toList.toArray by simp, hcs]
      rfl
  · have := bounds_u64 b0.2; unfold isW; omega
theorem open_lost {r : Reach} {b0 : Nat} {v : Value} {d : DataW H} {p : List MemPlace} (hv : Value.okWide Tryd.prog w r b0 76 v) (h : DataW.Trod enc Tryd.prog w 0 (fun _ => true) true 76 v d p) :
    ∃ (k : Int) (ao : Option Addr) (cap : Nat) (ts : List Int), v = .agg (loA k ao (List.length ts) cap) ∧ SlOf 1 uwC w ao ts ∧ (∀ x ∈ ts, isW x) := by
  obtain ⟨cs, rfl, hsz⟩ := okWide_struct Tryd.underlying76 hv
  obtain ⟨fuel, h⟩ := h
  have h' : DataW.trod enc Tryd.prog w 0 (fun _ => true) true fuel 76 cs.toList = some (d, p) := by simpa [Value.cells] using h
  obtain ⟨xs, m, _, _, hlen, hxl, hx⟩ := DataW.trod_struct Tryd.underlying76 h'
  have cc : Tryd.prog.cellsOf 76 = 2 := by kernel_rfl
  have w0 : Tryd.prog.cellsOf 3 = 1 := by kernel_rfl
  have w1 : Tryd.prog.cellsOf 24 = 1 := by kernel_rfl
  rw [cc] at hlen
  have hxl3 : xs.length = 2 := hxl
  have x0 := hx 0 _ rfl
  have x1 := hx 1 _ rfl
  rw [List.getElem?_eq_getElem (by omega)] at x0 x1
  obtain ⟨k, e0, b0⟩ := DataW.trod_int Tryd.underlying3 x0
  obtain ⟨ao, cap, ks, e1, S, G⟩ := open_slice_cells (0 : Int) (ks := [.int .u64]) uwC isW Tryd.underlying24 flat_uw cells_uw (by decide) (fun cs hF => uw_cells hF) x1
  change List.take (Tryd.prog.cellsOf 3) (List.drop 0 cs.toList) = _ at e0
  change List.take (Tryd.prog.cellsOf 24) (List.drop 1 cs.toList) = _ at e1
  rw [w0] at e0
  rw [w1] at e1
  refine ⟨k, ao, cap, ks, ?_, S, G⟩
  · match hcs : cs.toList, hlen with
    | [a, b], _ =>
      rw [hcs] at e0 e1
      simp at e0 e1
      subst e0 e1
      rw [show cs = cs.toList.toArray by simp, hcs]
      rfl
theorem open_play {r : Reach} {b0 : Nat} {v : Value} {d : DataW H} {p : List MemPlace} (hv : Value.okWide Tryd.prog w r b0 28 v) (h : DataW.Trod enc Tryd.prog w 0 (fun _ => true) true 28 v d p) :
    ∃ (h st : Int) (ao : Option Addr) (cap : Nat) (ps : List Pk), v = .agg (hpA h st ao (List.length ps) cap) ∧ isW h ∧ SlOf 3 pkL w ao ps ∧ (∀ x ∈ ps, x.wf) := by
  obtain ⟨cs, rfl, hsz⟩ := okWide_struct Tryd.underlying28 hv
  obtain ⟨fuel, h⟩ := h
  have h' : DataW.trod enc Tryd.prog w 0 (fun _ => true) true fuel 28 cs.toList = some (d, p) := by simpa [Value.cells] using h
  obtain ⟨xs, m, _, _, hlen, hxl, hx⟩ := DataW.trod_struct Tryd.underlying28 h'
  have cc : Tryd.prog.cellsOf 28 = 3 := by kernel_rfl
  have w0 : Tryd.prog.cellsOf 25 = 1 := by kernel_rfl
  have w1 : Tryd.prog.cellsOf 3 = 1 := by kernel_rfl
  have w2 : Tryd.prog.cellsOf 26 = 1 := by kernel_rfl
  rw [cc] at hlen
  have hxl3 : xs.length = 3 := hxl
  have x0 := hx 0 _ rfl
  have x1 := hx 1 _ rfl
  have x2 := hx 2 _ rfl
  rw [List.getElem?_eq_getElem (by omega)] at x0 x1 x2
  obtain ⟨k, e0, b0⟩ := DataW.trod_int Tryd.underlying25 x0
  obtain ⟨st, e1, b1⟩ := DataW.trod_int Tryd.underlying3 x1
  obtain ⟨ao, cap, ks, e2, S, G⟩ := open_slice_cells pk0 (ks := [.int .i64, .int .i64, .int .u64]) pkL Pk.wf Tryd.underlying26 flat_pk cells_pk (by decide) (fun cs hF => pk_cells hF) x2
  change List.take (Tryd.prog.cellsOf 25) (List.drop 0 cs.toList) = _ at e0
  change List.take (Tryd.prog.cellsOf 3) (List.drop 1 cs.toList) = _ at e1
  change List.take (Tryd.prog.cellsOf 26) (List.drop 2 cs.toList) = _ at e2
  rw [w0] at e0
  rw [w1] at e1
  rw [w2] at e2
  refine ⟨k, st, ao, cap, ks, ?_, ?_, S, G⟩
  · match hcs : cs.toList, hlen with
    | [a, b, d], _ =>
      rw [hcs] at e0 e1 e2
      simp at e0 e1 e2
      subst e0 e1 e2
      rw [show cs = cs.toList.toArray by simp, hcs]
      rfl
  · have := bounds_u64 b0.2; unfold isW; omega
end K
end Go.Proofs.YtjbdaejkofkcpaaDoor
namespace Go.Proofs.YtjbdaejkofkcpaaDoor
open Go.RowKit (Grown Hid Below intOf)
open Go.Deep
namespace K
set_option maxRecDepth 100000
/-- One, two, three new helps of a node. -/
structure N1 (V Y : World) (a : Nat) (h : Int) : Prop where
  A : HB Y a ⟨h, 0, 0, 0⟩
  k : Kept [] V Y
  ge : V.heap.size ≤ a
structure N2 (V Y : World) (a b : Nat) (h : Int) : Prop where
  A : HB Y a ⟨h, 0, 0, 0⟩
  B : HB Y b ⟨h, 0, 0, 0⟩
  k : Kept [] V Y
  ge : V.heap.size ≤ a
  lt : a < b
structure N3 (V Y : World) (a b d : Nat) (h : Int) : Prop where
  A : HB Y a ⟨h, 0, 0, 0⟩
  B : HB Y b ⟨h, 0, 0, 0⟩
  D : HB Y d ⟨h, 0, 0, 0⟩
  k : Kept [] V Y
  ge : V.heap.size ≤ a
  lt : a < b
  lt2 : b < d
theorem N1.of {V Y : World} (h : Int) (k : Kept [] V Y) : Calls Tryd.prog 10 #[.int .u64 h] Y fun e w' => ∃ a, e = .returned (.pointer (some ⟨a, 0, none⟩)) ∧ N1 V w' a h :=
  (hnew_any h Y).mono fun _ _ hh => by
    obtain ⟨a, e, ge, A, K⟩ := hh
    exact ⟨a, e, A, k.trans K, by have := k.size; omega⟩
theorem N2.of {V Y : World} {a : Nat} {h : Int} (n : N1 V Y a h) : Calls Tryd.prog 10 #[.int .u64 h] Y fun e w' => ∃ b, e = .returned (.pointer (some ⟨b, 0, none⟩)) ∧ N2 V w' a b h :=
  (hnew_any h Y).mono fun _ _ hh => by
    obtain ⟨b, e, ge, B, K⟩ := hh
    exact ⟨b, e, n.A.kept K (by simp), B, n.k.trans K, n.ge, by have := n.A.lt; omega⟩
theorem N3.of {V Y : World} {a b : Nat} {h : Int} (n : N2 V Y a b h) : Calls Tryd.prog 10 #[.int .u64 h] Y fun e w' => ∃ d, e = .returned (.pointer (some ⟨d, 0, none⟩)) ∧ N3 V w' a b d h :=
  (hnew_any h Y).mono fun _ _ hh => by
    obtain ⟨d, e, ge, D, K⟩ := hh
    exact ⟨d, e, n.A.kept K (by simp), n.B.kept K (by simp), D, n.k.trans K, n.ge, n.lt, by have := n.B.lt; omega⟩
/-- A block of another type. -/
theorem rw_far {T : TypeId} {w w' : World} {q b m p r : Nat} {A : Array Value} {s : Hm} {c : Cfg} {cs : List Int} {cnt : Int} {a : Acc} (h : RW T w q A) (t1 : T ≠ 86) (t2 : T ≠ 109) (t3 : T ≠ 25) (B : HB w b s) (M : Mm w m p r c cs cnt a) (k : Kept [b, p, r] w w') : RW T w' q A := by
  have n1 := rw_ne12 h (show RW 86 w b _ from B) t1
  have n2 := rw_ne12 h (show RW _ w p _ from M.bk.st) t2
  have n3 := rw_ne12 h (show RW _ w r _ from M.bk.row) t3
  exact h.kept k (by simp; omega)
/-- The boxes: the configuration's, and an argument's. -/
structure Bx (T : TypeId) (w : World) (q : Nat) (c : Cfg) (A : Array Value) : Prop where
  c : RW 23 w q #[.int .i64 c.t, .int .i64 c.s, .int .i64 c.c, .int .i64 c.h, .int .i64 c.k, .int .i64 c.e, .int .i64 c.l]
  z : RW T w (q + 1) A
theorem Bx.new {T : TypeId} {w w' : World} {q : Nat} {c : Cfg} {A : Array Value} (h : Bx T w q c A) (k : Kept [] w w') : Bx T w' q c A := ⟨h.c.kept k (by simp), h.z.kept k (by simp)⟩
theorem Bx.far {T : TypeId} {w w' : World} {q b m p r : Nat} {c : Cfg} {A : Array Value} {s : Hm} {cs : List Int} {cnt : Int} {a : Acc} (h : Bx T w q c A) (t1 : T ≠ 86) (t2 : T ≠ 109) (t3 : T ≠ 25) (B : HB w b s) (M : Mm w m p r c cs cnt a) (k : Kept [b, p, r] w w') : Bx T w' q c A :=
  ⟨cf_far h.c B M k, rw_far h.z t1 t2 t3 B M k⟩
theorem Bx.load {T : TypeId} {w w' : World} {q m p r : Nat} {c : Cfg} {A : Array Value} {cs : List Int} {cnt : Int} {a : Acc} (h : Bx T w q c A) (t2 : T ≠ 109) (t3 : T ≠ 25) (M : Mm w m p r c cs cnt a) (k : Kept [p, r] w w') : Bx T w' q c A := by
  have n2 := rw_ne12 h.z (show RW _ w p _ from M.bk.st) t2
  have n3 := rw_ne12 h.z (show RW _ w r _ from M.bk.row) t3
  exact ⟨cf_load h.c M k, h.z.kept k (by simp; omega)⟩
/-- Two helps, at a step. -/
structure Tw (w wr : World) (m p r a b : Nat) (c : Cfg) (T X : Int) (xs cs : List Int) (s t : Hm) (cnt : Int) : Prop where
  J : ∃ acc, Jm w wr m p r c cs cnt acc
  A : HB wr a s
  B : HB wr b t
  ai : HI c s
  bi : HI c t
  oa : w.heap.size ≤ a
  ob : w.heap.size ≤ b
  ne : ¬ a = b
  E : En c T X cs
  ua : HU c T X cs s
  ub : HU c T X cs t
  ci : CI c T X xs cs
  sa : HS c X xs s
  sb : HS c X xs t
section
variable {w wr w' : World} {m p r a b : Nat} {c : Cfg} {T X : Int} {xs cs : List Int} {s t : Hm} {cnt : Int}
theorem Tw.symm (h : Tw w wr m p r a b c T X xs cs s t cnt) : Tw w wr m p r b a c T X xs cs t s cnt :=
  ⟨h.J, h.B, h.A, h.bi, h.ai, h.ob, h.oa, fun e => h.ne e.symm, h.E, h.ub, h.ua, h.ci, h.sb, h.sa⟩
theorem Tw.new (h : Tw w wr m p r a b c T X xs cs s t cnt) (k : Kept [] wr w') : Tw w w' m p r a b c T X xs cs s t cnt :=
  ⟨by obtain ⟨acc, j⟩ := h.J; exact ⟨acc, j.new k⟩, h.A.kept k (by simp), h.B.kept k (by simp), h.ai, h.bi, h.oa, h.ob, h.ne, h.E, h.ua, h.ub, h.ci, h.sa, h.sb⟩
theorem Tw.step (h : Tw w wr m p r a b c T X xs cs s t cnt) (c1 : cnt < 1000000) :
    Calls Tryd.prog 13 #[.pointer (some ⟨a, 0, none⟩), .pointer (some ⟨m, 0, none⟩)] wr fun e w' => e = .returned (.tuple #[]) ∧ Tw w w' m p r a b c T X xs (hC c cs s) (hF c cs s) t (hN cnt s) ∧ Kept [a, p, r] wr w' := by
  obtain ⟨acc, j⟩ := h.J
  refine (j.step h.A h.oa h.ai (by omega)).mono fun _ w' hh => ?_
  obtain ⟨e, J, A, K⟩ := hh
  obtain ⟨e1, e2⟩ := CI.step h.E h.ua h.ci h.sa
  exact ⟨e, ⟨⟨_, J⟩, A, hb_far h.B (fun z => h.ne z.symm) j.mm K, h.ai.step j.R j.wd, h.bi, h.oa, h.ob, h.ne, hC_en h.E h.ua, (h.ua.step h.E).1, h.ub.mo (hC_mo h.E h.ua), e1, e2, h.sb⟩, K⟩
theorem hN_le (cnt : Int) (s : Hm) : cnt ≤ hN cnt s ∧ hN cnt s ≤ cnt + 1 := by unfold hN; split <;> omega
/-- The first goes on to its end. -/
theorem Tw.ends (h : Tw w wr m p r a b c T X xs cs s t cnt) (c1 : cnt < 100000) :
    Calls Tryd.prog 19 #[.pointer (some ⟨a, 0, none⟩), .pointer (some ⟨m, 0, none⟩), .int .i64 100] wr fun e w' => ∃ (n : Nat) (ds : List Int) (s2 : Hm), e = .returned (.int .i64 n) ∧ Tw w w' m p r a b c T X xs ds s2 t (cnt + n) ∧ s2.ph = 3 ∧ (n : Int) ≤ 13 ∧ Kept [a, p, r] wr w' := by
  obtain ⟨acc, j⟩ := h.J
  refine (ends_any w wr a m p r c s cs cnt acc 100 j h.A h.oa h.ai (by omega) (by omega)).mono fun _ w' hh => ?_
  obtain ⟨n, e, e1, _, Z⟩ := hh
  obtain ⟨e2, k, f⟩ := hx_hu h.E h.ua n
  obtain ⟨a1, a2, a3⟩ := hx_end h.E h.ua Z.no e1
  obtain ⟨g1, g2⟩ := hx_ci h.E h.ua h.ci h.sa n
  exact ⟨n, _, _, e, ⟨Z.jm, Z.hb, hb_far h.B (fun z => h.ne z.symm) j.mm Z.kp, Z.hi, h.bi, h.oa, h.ob, h.ne, e2, k, f t h.ub, g1, g2, h.sb⟩, a1, a3, Z.kp⟩
/-- A level has the mark only if the levels above have. -/
def Uc (c : Cfg) (T X : Int) (cs : List Int) : Prop := ∀ L, 0 ≤ L → L + 1 < T → mkB (fd c cs X (6 + L)) = true → mkB (fd c cs X (6 + (L + 1))) = true
theorem Uc.step (E : En c T X cs) (h : HU c T X cs s) (u : Uc c T X cs) : Uc c T X (hC c cs s) := by
  intro L l0 l1 hm
  have mo := hC_mo E h
  by_cases e : s.ph = 2 ∧ L = s.lv
  · exact mo (L + 1) (by omega) l1 (h.up (Or.inr e.1) (L + 1) (by omega) l1)
  · refine mo (L + 1) (by omega) l1 (u L l0 l1 ?_)
    unfold fd at hm ⊢
    rw [hC_rd E h] at hm
    rw [if_neg] at hm
    · exact hm
    · rintro ⟨h2, h3, _⟩
      have l := h.lv (Or.inr h2)
      exact e ⟨h2, by have := (cl_inj (E.has l0 (by omega)) (E.has l.1 l.2) h3).2; omega⟩
end
end K
end Go.Proofs.YtjbdaejkofkcpaaDoor
namespace Go.Proofs.YtjbdaejkofkcpaaDoor
open Go.RowKit (Grown Hid Below intOf)
open Go.Deep
namespace K
set_option maxRecDepth 100000
theorem tall_all {c : Cfg} {ns : List Nn} (h : RightN c ns) : ∀ j, j ≤ ns.length → ∀ i : Nat, 1 ≤ i → i ≤ j → fd c (lyAll c ns j) i 4 = (ns.getD (i - 1) nn0).t
  | 0, _, i, a, b => by omega
  | j + 1, hj, i, a, b => by
    have ih := tall_all h j (by omega)
    have ld := Ld.all h j (by omega)
    have hn := h.n
    have hi : ((j + 1 : Nat) : Int) ≤ c.c := by omega
    have ht : (ndOf c ns).tl (j + 1) ≤ HN c := h.ok.tl (j + 1) hj
    have l6 : ((lySix c (ns.getD j nn0) (j + 1) (lyAll c ns j)).length : Int) = lnV c := by rw [lySix_len]; exact ld.len
    have e1 := lyLv_fd (l := ndOf c ns) h.r l6 hi _ ht i 4
    have e2 := lySix_fd (x := ns.getD j nn0) h.r ld.len hi i 4
    rw [if_neg (by omega)] at e1
    have e3 : fd c (lyAll c ns (j + 1)) i 4 = _ := e1.trans e2
    rw [e3]
    by_cases e : i = j + 1
    · subst e
      rw [if_pos (by omega)]; simp
    · rw [if_neg (by omega)]
      exact ih i a (by omega)
theorem En.laid {c : Cfg} {ns : List Nn} (h : RightN c ns) {k : Nat} (hk : k < ns.length) : En c (ns.getD k nn0).t ((k : Int) + 1) (layV c ns) := by
  have b := h.b k hk
  have hn := h.n
  have e : fd c (layV c ns) ((k : Int) + 1) 4 = (ns.getD k nn0).t := by
    have z := tall_all h ns.length (Nat.le_refl _) (k + 1) (by omega) (by omega)
    rw [show ((k + 1 : Nat) : Int) = (k : Int) + 1 by omega, show k + 1 - 1 = k by omega] at z
    exact z
  refine ⟨h.r, (Ld.laid h).len, by omega, by omega, b.1, b.2.1, ?_⟩
  rw [e]; unfold tlV
  rw [if_neg (by have := b.1; omega), if_neg (by have := b.2.1; omega)]
theorem Uc.laid {c : Cfg} {ns : List Nn} (h : RightN c ns) {k : Nat} (hk : k < ns.length) : Uc c (ns.getD k nn0).t ((k : Int) + 1) (layV c ns) := by
  have nl := n_lt (riB_true.1 h.r) h.ok
  have b := h.b k hk
  have mk : ∀ M : Nat, (M : Int) < (ns.getD k nn0).t → mkB (fd c (layV c ns) ((k : Int) + 1) (6 + (M : Int))) = decide ((ndOf c ns).um (k + 1) ≤ M) := fun M hM => by
    have et : (ndOf c ns).tl (k + 1) = (ns.getD k nn0).t.toNat := rfl
    have z := (Ld.laid h).nx (k + 1) M (by omega) hk (by rw [et]; omega)
    rw [show ((k + 1 : Nat) : Int) = (k : Int) + 1 by omega, show ((6 + M : Nat) : Int) = 6 + (M : Int) by omega] at z
    rw [z]; exact nw_mk nl _
  intro L l0 l1 hm
  have e1 : L = ((L.toNat : Nat) : Int) := by omega
  have e2 : L + 1 = (((L + 1).toNat : Nat) : Int) := by omega
  rw [e1, mk _ (by omega)] at hm
  have z := of_decide_eq_true hm
  rw [e2, mk _ (by omega)]
  exact decide_eq_true (by omega)
/-- The calls that lay nodes, and make a world of them. -/
theorem lay_k (c : Cfg) (ns : List Nn) (ao : Option Addr) (n cap : Nat) (W0 W : World) (h : RightN c ns) (hw : ∀ x ∈ ns, x.wf) (hs : SlOf 5 nnL W0 ao ns) (hn : n = ns.length) (k : Kept [] W0 W) :
    Calls Tryd.prog 27 #[.agg #[.int .i64 c.t, .int .i64 c.s, .int .i64 c.c, .int .i64 c.h, .int .i64 c.k, .int .i64 c.e, .int .i64 c.l], .slice ao n cap] W fun e w' => ∃ g c', e = .returned (.slice (some ⟨g, 0, none⟩) (lnN c) c') ∧ RowR w' g (layV c ns) c' ∧ Kept [] W0 w' :=
  (lay_any c ns ao n cap W h hw (hs.new k) hn).mono fun _ _ hh => by
    obtain ⟨g, c', e, _, R, K⟩ := hh
    exact ⟨g, c', e, R, k.trans K⟩
theorem of_k (c : Cfg) (ns : List Nn) (w W0 W : World) (g c' : Nat) (h : RightN c ns) (hw : ∀ x ∈ ns, x.wf) (hR : RowR W g (layV c ns) c') (k0 : Kept [] w W0) (k : Kept [] W0 W) (hT : Tab w) :
    Calls Tryd.prog 26 #[.agg #[.int .i64 c.t, .int .i64 c.s, .int .i64 c.c, .int .i64 c.h, .int .i64 c.k, .int .i64 c.e, .int .i64 c.l], .slice (some ⟨g, 0, none⟩) (lnN c) c'] W fun e w' => ∃ m p r, e = .returned (.tuple #[.pointer (some ⟨m, 0, none⟩), .int .i64 0]) ∧ Jm w w' m p r c (layV c ns) 0 Acc.zero ∧ Kept [] W0 w' :=
  (mof_yes c (some ⟨g, 0, none⟩) (layV c ns) (lnN c) c' W h.r (by rw [lnN_eq]) (by unfold layV; rw [lyAll_len]) hR.sl).mono fun _ _ hh => by
    obtain ⟨m, p, r, e, ⟨h1, h2, h3⟩, M, K⟩ := hh
    have := k0.size
    have := k.size
    exact ⟨m, p, r, e, ⟨M, (k0.trans k).trans K, hT, by omega, by omega, by omega, riB_true.1 h.r, wds_all h hw ns.length (Nat.le_refl _), Int.le_refl _⟩, k.trans K⟩
end K
end Go.Proofs.YtjbdaejkofkcpaaDoor
