/-
  Arguments: nodes that are laid; a find's play; ahead of which steps the clock goes on.
  The arguments of the laws that are structs: whose step comes, what is written.
  Two helps of one node over the same words; new ones, one behind the other.
  Words that somebody else writes: the program's, and the document's.
  Words that somebody else writes ahead of a step: the program's, and the document's.
  The program's help and the document's, side by side, over the program's words and the document's.
-/
import Derived.Test.YtjbdaejkofkcpaaDoorFLaid
import Derived.Test.YtjbdaejkofkcpaaDoorOpen
import Derived.Test.YtjbdaejkofkcpaaDoorJHelp
import Derived.Test.YtjbdaejkofkcpaaDoorKBase
import Derived.Deep.Cut
import Derived.Test.YtjbdaejkofkcpaaDoorJDoc
namespace Go.Proofs.YtjbdaejkofkcpaaDoor
set_option maxRecDepth 100000
open Go.ChangeShapes Go.WideShapes Go.ChangeAt Go.RowKit
open Go.Deep
namespace K
section
variable {H : Type} {enc : TypeId × Value → H} {w : World}
theorem open_slice_cells {α : Type} (x0 : α) {n fuel : Nat} {t e : TypeId} {cs : List Value} {x : DataW H × List MemPlace} {ks : List Lk} (f : α → List Value) (G : α → Prop) (ht : Tryd.prog.underlying t = some (.slice e)) (hf : flat Tryd.prog n e = some ks) (hc : Tryd.prog.cellsOf e = ks.length)
    (hpos : 0 < ks.length) (hG : ∀ cs, F2 ks cs → ∃ x, cs = f x ∧ G x) (hd : DataW.trod enc Tryd.prog w 0 (fun _ => true) true fuel t cs = some x) :
    ∃ ao cap xs, cs = [.slice ao (List.length xs) cap] ∧ SlOf ks.length f w ao xs ∧ (∀ x ∈ xs, G x) := by
  have : Inhabited α := ⟨x0⟩
  rcases Deep.open_slice ht hd with ⟨hcs, hx⟩ | ⟨ad, len, cap, m, n', D, Pl, hcs, hb, hl, hm, hmm, hx, hall⟩
  · exact ⟨none, 0, [], hcs, fun h => absurd h (by simp), by simp⟩
  · have hml : len ≤ m := by rw [hmm]; split <;> omega
    have each : ∀ i, i < len → ∃ x : α, (G x ∧ (f x).length = ks.length) ∧ ∀ j v, (f x)[j]? = some v → w.cell? (ad.add (i * ks.length + j)) = some v := by
      intro i hi
      obtain ⟨cs', h1, h2⟩ := hall i (by omega)
      have hF := flat_trod n hf h2
      obtain ⟨x, rfl, hg⟩ := hG cs' hF
      refine ⟨x, ⟨hg, (F2_length hF).symm⟩, fun j v hj => ?_⟩
      rw [hc] at h1
      have h3 := (World.cells?_some h1).2.2 j (by rw [F2_length hF]; exact (List.getElem?_eq_some_iff.1 hj).1)
      rw [hj, Deep.add_add] at h3
      exact h3
    obtain ⟨X, hX⟩ := choose_lt each
    have hlenX : ((List.range len).map X).length = len := by simp
    refine ⟨some ad, cap, (List.range len).map X, by rw [hlenX]; exact hcs, ?_, ?_⟩
    · intro h0
      rw [hlenX] at h0
      obtain ⟨b, off, spot⟩ := ad
      have c0 : ∃ v, (f (X 0))[0]? = some v := ⟨_, List.getElem?_eq_getElem (by have := (hX 0 h0).1.2; omega)⟩
      obtain ⟨v0, hv0⟩ := c0
      have hc0 := (hX 0 h0).2 0 v0 hv0
      have hspot : spot = none := by
        have := World.cell?_spot hc0
        rw [Nat.zero_mul] at this; simpa [Addr.add] using this
      subst hspot
      refine ⟨b, off, rfl, ?_, fun i hi j v hj => ?_⟩
      · have := lt_of_cell hc0; rwa [add_block] at this
      · rw [hlenX] at hi
        have := (hX i hi).2 j v (by simpa using hj)
        rw [add_plain] at this
        rw [Nat.add_assoc]; exact this
    · intro x hx; obtain ⟨i, hi, rfl⟩ := List.mem_map.1 hx; exact (hX i (by simpa using hi)).1.1
theorem flat_nn : flat Tryd.prog 3 72 = some [.int .u64, .int .u64, .int .i64, .int .i64, .bool] := by kernel_rfl
theorem cells_nn : Tryd.prog.cellsOf 72 = 5 := by kernel_rfl
theorem nn_cells {cs : List Value} (h : F2 [.int .u64, .int .u64, .int .i64, .int .i64, .bool] cs) : ∃ p : Nn, cs = nnL p ∧ p.wf := by
  obtain ⟨a0, r, rfl, w0, h⟩ := F2_int h
  obtain ⟨a1, r, rfl, w1, h⟩ := F2_int h
  obtain ⟨a2, r, rfl, _, h⟩ := F2_int h
  obtain ⟨a3, r, rfl, _, h⟩ := F2_int h
  obtain ⟨a4, r5, e5, h5⟩ := F2_bool h
  subst e5
  obtain rfl := F2_nil h5
  have b0 := bounds_u64 w0
  have b1 := bounds_u64 w1
  refine ⟨⟨a0, a1, a2, a3, a4⟩, rfl, ?_⟩
  unfold Nn.wf
  show (0 ≤ a0 ∧ a0 < 18446744073709551616) ∧ 0 ≤ a1 ∧ a1 < 18446744073709551616
  omega
theorem open_nodes {r : Reach} {b0 : Nat} {v : Value} {d : DataW H} {p : List MemPlace} (hv : Value.okWide Tryd.prog w r b0 65 v) (h : DataW.Trod enc Tryd.prog w 0 (fun _ => true) true 65 v d p) :
    ∃ (ao : Option Addr) (cap : Nat) (ns : List Nn), v = .slice ao (List.length ns) cap ∧ SlOf 5 nnL w ao ns ∧ (∀ x ∈ ns, x.wf) := by
  have : Inhabited Nn := ⟨nn0⟩
  obtain ⟨ao, cap, xs, e, S, G, _⟩ := open_slice_of (ks := [.int .u64, .int .u64, .int .i64, .int .i64, .bool]) nnL Nn.wf Tryd.underlying65 flat_nn cells_nn (by decide) (fun cs hF => nn_cells hF) hv h
  exact ⟨ao, cap, xs, e, S, G⟩
/-- Ahead of which steps the clock goes on. -/
def iwC (x : Int) : List Value := [.int .i64 x]
theorem flat_iw : flat Tryd.prog 3 3 = some [.int .i64] := by kernel_rfl
theorem cells_iw : Tryd.prog.cellsOf 3 = 1 := by kernel_rfl
theorem iw_cells {cs : List Value} (h : F2 [.int .i64] cs) : ∃ p : Int, cs = iwC p ∧ True := by
  obtain ⟨a0, r, rfl, w0, h⟩ := F2_int h
  obtain rfl := F2_nil h
  exact ⟨a0, rfl, trivial⟩
def tkA (k : Int) (ao : Option Addr) (n cap : Nat) : Array Value := #[.int .u64 k, .slice ao n cap]
/-- What is written meanwhile. -/
structure Pk where
  s : Int
  c : Int
  v : Int
def pkL (p : Pk) : List Value := [.int .i64 p.s, .int .i64 p.c, .int .u64 p.v]
def pk0 : Pk := ⟨0, 0, 0⟩
theorem flat_pk : flat Tryd.prog 3 88 = some [.int .i64, .int .i64, .int .u64] := by kernel_rfl
theorem cells_pk : Tryd.prog.cellsOf 88 = 3 := by kernel_rfl
def Pk.wf (p : Pk) : Prop := 0 ≤ p.v ∧ p.v < 18446744073709551616
theorem pk_cells {cs : List Value} (h : F2 [.int .i64, .int .i64, .int .u64] cs) : ∃ p : Pk, cs = pkL p ∧ p.wf := by
  obtain ⟨a0, r, rfl, _, h⟩ := F2_int h
  obtain ⟨a1, r, rfl, _, h⟩ := F2_int h
  obtain ⟨a2, r, rfl, w2, h⟩ := F2_int h
  obtain rfl := F2_nil h
  have := bounds_u64 w2
  exact ⟨⟨a0, a1, a2⟩, rfl, by unfold Pk.wf; show 0 ≤ a2 ∧ a2 < 18446744073709551616; omega⟩
/-- A key, a thread, how many steps, and what is written. -/
def plA (k t st : Int) (ao : Option Addr) (n cap : Nat) : Array Value := #[.int .u64 k, .int .i64 t, .int .i64 st, .slice ao n cap]
end
end K
end Go.Proofs.YtjbdaejkofkcpaaDoor
namespace Go.Proofs.YtjbdaejkofkcpaaDoor
open Go.ChangeShapes Go.WideShapes Go.ChangeAt Go.RowKit
open Go.Deep
namespace K
set_option maxRecDepth 100000
variable {w : World} {H : Type} {enc : TypeId × Value → H}
def boC (x : Bool) : List Value := [.bool x]
theorem flat_bo : flat Tryd.prog 3 4 = some [.bool] := by kernel_rfl
theorem cells_bo : Tryd.prog.cellsOf 4 = 1 := by kernel_rfl
theorem bo_cells {cs : List Value} (h : F2 [.bool] cs) : ∃ p : Bool, cs = boC p ∧ True := by
  obtain ⟨a0, r, rfl, h2⟩ := F2_bool h
  obtain rfl := F2_nil h2
  exact ⟨a0, rfl, trivial⟩
def uwC (x : Int) : List Value := [.int .u64 x]
theorem flat_uw : flat Tryd.prog 3 25 = some [.int .u64] := by kernel_rfl
theorem cells_uw : Tryd.prog.cellsOf 25 = 1 := by kernel_rfl
theorem uw_cells {cs : List Value} (h : F2 [.int .u64] cs) : ∃ p : Int, cs = uwC p ∧ isW p := by
  obtain ⟨a0, r, rfl, w0, h⟩ := F2_int h
  obtain rfl := F2_nil h
  have := bounds_u64 w0
  exact ⟨a0, rfl, by unfold isW; omega⟩
theorem bo_row {w : World} {ao : Option Addr} {ts : List Bool} (h : SlOf 1 boC w ao ts) {k : Nat} (hk : k < ts.length) : ∃ b off, ao = some ⟨b, off, none⟩ ∧ b < w.heap.size ∧ w.cell? ⟨b, off + k, none⟩ = some (.bool (ts.getD k false)) := by
  obtain ⟨b, off, rfl, hb, hc⟩ := h (by omega)
  have e : ts.getD k false = ts[k] := by simp [hk]
  rw [e]
  have := hc k hk 0 _ rfl
  rw [Nat.mul_one, Nat.add_zero] at this
  exact ⟨b, off, rfl, hb, this⟩
theorem uw_row {w : World} {ao : Option Addr} {ts : List Int} (h : SlOf 1 uwC w ao ts) {k : Nat} (hk : k < ts.length) : ∃ b off, ao = some ⟨b, off, none⟩ ∧ b < w.heap.size ∧ w.cell? ⟨b, off + k, none⟩ = some (.int .u64 (ts.getD k 0)) := by
  obtain ⟨b, off, rfl, hb, hc⟩ := h (by omega)
  have e : ts.getD k 0 = ts[k] := by simp [hk]
  rw [e]
  have := hc k hk 0 _ rfl
  rw [Nat.mul_one, Nat.add_zero] at this
  exact ⟨b, off, rfl, hb, this⟩
def tuA (h : Int) (ao : Option Addr) (n cap : Nat) : Array Value := #[.int .u64 h, .slice ao n cap]
theorem isT_tu : IsT 63 2 := ⟨by kernel_rfl, _, Tryd.underlying63⟩
def loA (k : Int) (ao : Option Addr) (n cap : Nat) : Array Value := #[.int .i64 k, .slice ao n cap]
theorem isT_lo : IsT 76 2 := ⟨by kernel_rfl, _, Tryd.underlying76⟩
def hpA (h st : Int) (ao : Option Addr) (n cap : Nat) : Array Value := #[.int .u64 h, .int .i64 st, .slice ao n cap]
theorem isT_hp : IsT 28 3 := ⟨by kernel_rfl, _, Tryd.underlying28⟩
theorem open_turns {r : Reach} {b0 : Nat} {v : Value} {d : DataW H} {p : List MemPlace} (hv : Value.okWide Tryd.prog w r b0 63 v) (h : DataW.Trod enc Tryd.prog w 0 (fun _ => true) true 63 v d p) :
    ∃ (h : Int) (ao : Option Addr) (cap : Nat) (ts : List Bool), v = .agg (tuA h ao (List.length ts) cap) ∧ isW h ∧ SlOf 1 boC w ao ts := by
  obtain ⟨cs, rfl, hsz⟩ := okWide_struct Tryd.underlying63 hv
  obtain ⟨fuel, h⟩ := h
  have h' : DataW.trod enc Tryd.prog w 0 (fun _ => true) true fuel 63 cs.toList = some (d, p) := by simpa [Value.cells] using h
  obtain ⟨xs, m, _, _, hlen, hxl, hx⟩ := DataW.trod_struct Tryd.underlying63 h'
  have cc : Tryd.prog.cellsOf 63 = 2 := by kernel_rfl
  have w0 : Tryd.prog.cellsOf 25 = 1 := by kernel_rfl
  have w1 : Tryd.prog.cellsOf 61 = 1 := by kernel_rfl
  rw [cc] at hlen
  have hxl3 : xs.length = 2 := hxl
  have x0 := hx 0 _ rfl
  have x1 := hx 1 _ rfl
  rw [List.getElem?_eq_getElem (by omega)] at x0 x1
  obtain ⟨k, e0, b0⟩ := DataW.trod_int Tryd.underlying25 x0
  obtain ⟨ao, cap, ks, e1, S, G⟩ := open_slice_cells true (ks := [.bool]) boC (fun _ => True) Tryd.underlying61 flat_bo cells_bo (by decide) (fun cs hF => bo_cells hF) x1
  change List.take (Tryd.prog.cellsOf 25) (List.drop 0 cs.toList) = _ at e0
  change List.take (Tryd.prog.cellsOf 61) (List.drop 1 cs.toList) = _ at e1
  rw [w0] at e0
  rw [w1] at e1
  refine ⟨k, ao, cap, ks, ?_, ?_, S⟩
  · match hcs : cs.toList, hlen with
    | [a, b], _ =>
      rw [hcs] at e0 e1
      simp at e0 e1
      subst e0 e1
      rw [show cs = cs.toList.toArray by simp, hcs]
      rfl
  · have := bounds_u64 b0.2; unfold isW; omega
theorem open_lost {r : Reach} {b0 : Nat} {v : Value} {d : DataW H} {p : List MemPlace} (hv : Value.okWide Tryd.prog w r b0 76 v) (h : DataW.Trod enc Tryd.prog w 0 (fun _ => true) true 76 v d p) :
    ∃ (k : Int) (ao : Option Addr) (cap : Nat) (ts : List Int), v = .agg (loA k ao (List.length ts) cap) ∧ SlOf 1 uwC w ao ts ∧ (∀ x ∈ ts, isW x) := by
  obtain ⟨cs, rfl, hsz⟩ := okWide_struct Tryd.underlying76 hv
  obtain ⟨fuel, h⟩ := h
  have h' : DataW.trod enc Tryd.prog w 0 (fun _ => true) true fuel 76 cs.toList = some (d, p) := by simpa [Value.cells] using h
  obtain ⟨xs, m, _, _, hlen, hxl, hx⟩ := DataW.trod_struct Tryd.underlying76 h'
  have cc : Tryd.prog.cellsOf 76 = 2 := by kernel_rfl
  have w0 : Tryd.prog.cellsOf 3 = 1 := by kernel_rfl
  have w1 : Tryd.prog.cellsOf 24 = 1 := by kernel_rfl
  rw [cc] at hlen
  have hxl3 : xs.length = 2 := hxl
  have x0 := hx 0 _ rfl
  have x1 := hx 1 _ rfl
  rw [List.getElem?_eq_getElem (by omega)] at x0 x1
  obtain ⟨k, e0, b0⟩ := DataW.trod_int Tryd.underlying3 x0
  obtain ⟨ao, cap, ks, e1, S, G⟩ := open_slice_cells (0 : Int) (ks := [.int .u64]) uwC isW Tryd.underlying24 flat_uw cells_uw (by decide) (fun cs hF => uw_cells hF) x1
  change List.take (Tryd.prog.cellsOf 3) (List.drop 0 cs.toList) = _ at e0
  change List.take (Tryd.prog.cellsOf 24) (List.drop 1 cs.toList) = _ at e1
  rw [w0] at e0
  rw [w1] at e1
  refine ⟨k, ao, cap, ks, ?_, S, G⟩
  · match hcs : cs.toList, hlen with
    | [a, b], _ =>
      rw [hcs] at e0 e1
      simp at e0 e1
      subst e0 e1
      rw [show cs = cs.toList.toArray by simp, hcs]
      rfl
theorem open_play {r : Reach} {b0 : Nat} {v : Value} {d : DataW H} {p : List MemPlace} (hv : Value.okWide Tryd.prog w r b0 28 v) (h : DataW.Trod enc Tryd.prog w 0 (fun _ => true) true 28 v d p) :
    ∃ (h st : Int) (ao : Option Addr) (cap : Nat) (ps : List Pk), v = .agg (hpA h st ao (List.length ps) cap) ∧ isW h ∧ SlOf 3 pkL w ao ps ∧ (∀ x ∈ ps, x.wf) := by
  obtain ⟨cs, rfl, hsz⟩ := okWide_struct Tryd.underlying28 hv
  obtain ⟨fuel, h⟩ := h
  have h' : DataW.trod enc Tryd.prog w 0 (fun _ => true) true fuel 28 cs.toList = some (d, p) := by simpa [Value.cells] using h
  obtain ⟨xs, m, _, _, hlen, hxl, hx⟩ := DataW.trod_struct Tryd.underlying28 h'
  have cc : Tryd.prog.cellsOf 28 = 3 := by kernel_rfl
  have w0 : Tryd.prog.cellsOf 25 = 1 := by kernel_rfl
  have w1 : Tryd.prog.cellsOf 3 = 1 := by kernel_rfl
  have w2 : Tryd.prog.cellsOf 26 = 1 := by kernel_rfl
  rw [cc] at hlen
  have hxl3 : xs.length = 3 := hxl
  have x0 := hx 0 _ rfl
  have x1 := hx 1 _ rfl
  have x2 := hx 2 _ rfl
  rw [List.getElem?_eq_getElem (by omega)] at x0 x1 x2
  obtain ⟨k, e0, b0⟩ := DataW.trod_int Tryd.underlying25 x0
  obtain ⟨st, e1, b1⟩ := DataW.trod_int Tryd.underlying3 x1
  obtain ⟨ao, cap, ks, e2, S, G⟩ := open_slice_cells pk0 (ks := [.int .i64, .int .i64, .int .u64]) pkL Pk.wf Tryd.underlying26 flat_pk cells_pk (by decide) (fun cs hF => pk_cells hF) x2
  change List.take (Tryd.prog.cellsOf 25) (List.drop 0 cs.toList) = _ at e0
  change List.take (Tryd.prog.cellsOf 3) (List.drop 1 cs.toList) = _ at e1
  change List.take (Tryd.prog.cellsOf 26) (List.drop 2 cs.toList) = _ at e2
  rw [w0] at e0
  rw [w1] at e1
  rw [w2] at e2
  refine ⟨k, st, ao, cap, ks, ?_, ?_, S, G⟩
  · match hcs : cs.toList, hlen with
    | [a, b, d], _ =>
      rw [hcs] at e0 e1 e2
      simp at e0 e1 e2
      subst e0 e1 e2
      rw [show cs = cs.toList.toArray by simp, hcs]
      rfl
  · have := bounds_u64 b0.2; unfold isW; omega
end K
end Go.Proofs.YtjbdaejkofkcpaaDoor
namespace Go.Proofs.YtjbdaejkofkcpaaDoor
open Go.RowKit (Grown Hid Below intOf)
open Go.Deep
namespace K
set_option maxRecDepth 100000
/-- One, two, three new helps of a node. -/
structure N1 (V Y : World) (a : Nat) (h : Int) : Prop where
  A : HB Y a ⟨h, 0, 0, 0⟩
  k : Kept [] V Y
  ge : V.heap.size ≤ a
structure N2 (V Y : World) (a b : Nat) (h : Int) : Prop where
  A : HB Y a ⟨h, 0, 0, 0⟩
  B : HB Y b ⟨h, 0, 0, 0⟩
  k : Kept [] V Y
  ge : V.heap.size ≤ a
  lt : a < b
structure N3 (V Y : World) (a b d : Nat) (h : Int) : Prop where
  A : HB Y a ⟨h, 0, 0, 0⟩
  B : HB Y b ⟨h, 0, 0, 0⟩
  D : HB Y d ⟨h, 0, 0, 0⟩
  k : Kept [] V Y
  ge : V.heap.size ≤ a
  lt : a < b
  lt2 : b < d
theorem N1.of {V Y : World} (h : Int) (k : Kept [] V Y) : Calls Tryd.prog 10 #[.int .u64 h] Y fun e w' => ∃ a, e = .returned (.pointer (some ⟨a, 0, none⟩)) ∧ N1 V w' a h :=
  (hnew_any h Y).mono fun _ _ hh => by
    obtain ⟨a, e, ge, A, K⟩ := hh
    exact ⟨a, e, A, k.trans K, by have := k.size; omega⟩
theorem N2.of {V Y : World} {a : Nat} {h : Int} (n : N1 V Y a h) : Calls Tryd.prog 10 #[.int .u64 h] Y fun e w' => ∃ b, e = .returned (.pointer (some ⟨b, 0, none⟩)) ∧ N2 V w' a b h :=
  (hnew_any h Y).mono fun _ _ hh => by
    obtain ⟨b, e, ge, B, K⟩ := hh
    exact ⟨b, e, n.A.kept K (by simp), B, n.k.trans K, n.ge, by have := n.A.lt; omega⟩
theorem N3.of {V Y : World} {a b : Nat} {h : Int} (n : N2 V Y a b h) : Calls Tryd.prog 10 #[.int .u64 h] Y fun e w' => ∃ d, e = .returned (.pointer (some ⟨d, 0, none⟩)) ∧ N3 V w' a b d h :=
  (hnew_any h Y).mono fun _ _ hh => by
    obtain ⟨d, e, ge, D, K⟩ := hh
    exact ⟨d, e, n.A.kept K (by simp), n.B.kept K (by simp), D, n.k.trans K, n.ge, n.lt, by have := n.B.lt; omega⟩
/-- A block of another type. -/
theorem rw_far {T : TypeId} {w w' : World} {q b m p r : Nat} {A : Array Value} {s : Hm} {c : Cfg} {cs : List Int} {cnt : Int} {a : Acc} (h : RW T w q A) (t1 : T ≠ 86) (t2 : T ≠ 109) (t3 : T ≠ 25) (B : HB w b s) (M : Mm w m p r c cs cnt a) (k : Kept [b, p, r] w w') : RW T w' q A := by
  have n1 := rw_ne12 h (show RW 86 w b _ from B) t1
  have n2 := rw_ne12 h (show RW _ w p _ from M.bk.st) t2
  have n3 := rw_ne12 h (show RW _ w r _ from M.bk.row) t3
  exact h.kept k (by simp; omega)
/-- The boxes: the configuration's, and an argument's. -/
structure Bx (T : TypeId) (w : World) (q : Nat) (c : Cfg) (A : Array Value) : Prop where
  c : RW 23 w q #[.int .i64 c.t, .int .i64 c.s, .int .i64 c.c, .int .i64 c.h, .int .i64 c.k, .int .i64 c.e, .int .i64 c.l]
  z : RW T w (q + 1) A
theorem Bx.new {T : TypeId} {w w' : World} {q : Nat} {c : Cfg} {A : Array Value} (h : Bx T w q c A) (k : Kept [] w w') : Bx T w' q c A := ⟨h.c.kept k (by simp), h.z.kept k (by simp)⟩
theorem Bx.far {T : TypeId} {w w' : World} {q b m p r : Nat} {c : Cfg} {A : Array Value} {s : Hm} {cs : List Int} {cnt : Int} {a : Acc} (h : Bx T w q c A) (t1 : T ≠ 86) (t2 : T ≠ 109) (t3 : T ≠ 25) (B : HB w b s) (M : Mm w m p r c cs cnt a) (k : Kept [b, p, r] w w') : Bx T w' q c A :=
  ⟨cf_far h.c B M k, rw_far h.z t1 t2 t3 B M k⟩
theorem Bx.load {T : TypeId} {w w' : World} {q m p r : Nat} {c : Cfg} {A : Array Value} {cs : List Int} {cnt : Int} {a : Acc} (h : Bx T w q c A) (t2 : T ≠ 109) (t3 : T ≠ 25) (M : Mm w m p r c cs cnt a) (k : Kept [p, r] w w') : Bx T w' q c A := by
  have n2 := rw_ne12 h.z (show RW _ w p _ from M.bk.st) t2
  have n3 := rw_ne12 h.z (show RW _ w r _ from M.bk.row) t3
  exact ⟨cf_load h.c M k, h.z.kept k (by simp; omega)⟩
/-- Two helps, at a step. -/
structure Tw (w wr : World) (m p r a b : Nat) (c : Cfg) (T X : Int) (xs cs : List Int) (s t : Hm) (cnt : Int) : Prop where
  J : ∃ acc, Jm w wr m p r c cs cnt acc
  A : HB wr a s
  B : HB wr b t
  ai : HI c s
  bi : HI c t
  oa : w.heap.size ≤ a
  ob : w.heap.size ≤ b
  ne : ¬ a = b
  E : En c T X cs
  ua : HU c T X cs s
  ub : HU c T X cs t
  ci : CI c T X xs cs
  sa : HS c X xs s
  sb : HS c X xs t
section
variable {w wr w' : World} {m p r a b : Nat} {c : Cfg} {T X : Int} {xs cs : List Int} {s t : Hm} {cnt : Int}
theorem Tw.symm (h : Tw w wr m p r a b c T X xs cs s t cnt) : Tw w wr m p r b a c T X xs cs t s cnt :=
  ⟨h.J, h.B, h.A, h.bi, h.ai, h.ob, h.oa, fun e => h.ne e.symm, h.E, h.ub, h.ua, h.ci, h.sb, h.sa⟩
theorem Tw.new (h : Tw w wr m p r a b c T X xs cs s t cnt) (k : Kept [] wr w') : Tw w w' m p r a b c T X xs cs s t cnt :=
  ⟨by obtain ⟨acc, j⟩ := h.J; exact ⟨acc, j.new k⟩, h.A.kept k (by simp), h.B.kept k (by simp), h.ai, h.bi, h.oa, h.ob, h.ne, h.E, h.ua, h.ub, h.ci, h.sa, h.sb⟩
theorem Tw.step (h : Tw w wr m p r a b c T X xs cs s t cnt) (c1 : cnt < 1000000) :
    Calls Tryd.prog 13 #[.pointer (some ⟨a, 0, none⟩), .pointer (some ⟨m, 0, none⟩)] wr fun e w' => e = .returned (.tuple #[]) ∧ Tw w w' m p r a b c T X xs (hC c cs s) (hF c cs s) t (hN cnt s) ∧ Kept [a, p, r] wr w' := by
  obtain ⟨acc, j⟩ := h.J
  refine (j.step h.A h.oa h.ai (by omega)).mono fun _ w' hh => ?_
  obtain ⟨e, J, A, K⟩ := hh
  obtain ⟨e1, e2⟩ := CI.step h.E h.ua h.ci h.sa
  exact ⟨e, ⟨⟨_, J⟩, A, hb_far h.B (fun z => h.ne z.symm) j.mm K, h.ai.step j.R j.wd, h.bi, h.oa, h.ob, h.ne, hC_en h.E h.ua, (h.ua.step h.E).1, h.ub.mo (hC_mo h.E h.ua), e1, e2, h.sb⟩, K⟩
theorem hN_le (cnt : Int) (s : Hm) : cnt ≤ hN cnt s ∧ hN cnt s ≤ cnt + 1 := by unfold hN; split <;> omega
/-- The first goes on to its end. -/
theorem Tw.ends (h : Tw w wr m p r a b c T X xs cs s t cnt) (c1 : cnt < 100000) :
    Calls Tryd.prog 19 #[.pointer (some ⟨a, 0, none⟩), .pointer (some ⟨m, 0, none⟩), .int .i64 100] wr fun e w' => ∃ (n : Nat) (ds : List Int) (s2 : Hm), e = .returned (.int .i64 n) ∧ Tw w w' m p r a b c T X xs ds s2 t (cnt + n) ∧ s2.ph = 3 ∧ (n : Int) ≤ 13 ∧ Kept [a, p, r] wr w' := by
  obtain ⟨acc, j⟩ := h.J
  refine (ends_any w wr a m p r c s cs cnt acc 100 j h.A h.oa h.ai (by omega) (by omega)).mono fun _ w' hh => ?_
  obtain ⟨n, e, e1, _, Z⟩ := hh
  obtain ⟨e2, k, f⟩ := hx_hu h.E h.ua n
  obtain ⟨a1, a2, a3⟩ := hx_end h.E h.ua Z.no e1
  obtain ⟨g1, g2⟩ := hx_ci h.E h.ua h.ci h.sa n
  exact ⟨n, _, _, e, ⟨Z.jm, Z.hb, hb_far h.B (fun z => h.ne z.symm) j.mm Z.kp, Z.hi, h.bi, h.oa, h.ob, h.ne, e2, k, f t h.ub, g1, g2, h.sb⟩, a1, a3, Z.kp⟩
/-- A level has the mark only if the levels above have. -/
def Uc (c : Cfg) (T X : Int) (cs : List Int) : Prop := ∀ L, 0 ≤ L → L + 1 < T → mkB (fd c cs X (6 + L)) = true → mkB (fd c cs X (6 + (L + 1))) = true
theorem Uc.step (E : En c T X cs) (h : HU c T X cs s) (u : Uc c T X cs) : Uc c T X (hC c cs s) := by
  intro L l0 l1 hm
  have mo := hC_mo E h
  by_cases e : s.ph = 2 ∧ L = s.lv
  · exact mo (L + 1) (by omega) l1 (h.up (Or.inr e.1) (L + 1) (by omega) l1)
  · refine mo (L + 1) (by omega) l1 (u L l0 l1 ?_)
    unfold fd at hm ⊢
    rw [hC_rd E h] at hm
    rw [if_neg] at hm
    · exact hm
    · rintro ⟨h2, h3, _⟩
      have l := h.lv (Or.inr h2)
      exact e ⟨h2, by have := (cl_inj (E.has l0 (by omega)) (E.has l.1 l.2) h3).2; omega⟩
end
end K
end Go.Proofs.YtjbdaejkofkcpaaDoor
namespace Go.Proofs.YtjbdaejkofkcpaaDoor
open Go.RowKit (Grown Hid Below)
open Go.Deep
namespace K
set_option maxRecDepth 100000
def pkA (p : Pk) : Array Value := #[.int .i64 p.s, .int .i64 p.c, .int .u64 p.v]
theorem isT_pk : IsT 88 3 := ⟨by kernel_rfl, _, Tryd.underlying88⟩
set_option maxHeartbeats 2000000 in
theorem pokedRef_any (st ce v : Int) (c : Cfg) (g : Nat) (cs : List Int) (cap : Nat) (cnt : Int) (a : Acc) (w : World) (hR : RowR w g cs cap) (hl : cs.length ≤ 17592186044415) (c0 : 0 ≤ cnt) (c1 : cnt < 4611686018427387904) :
    Calls Tryd.prog 38 #[.agg (rmA c (some ⟨g, 0, none⟩) cs.length cap cnt a), .agg (pkA ⟨st, ce, v⟩)] w fun e w' =>
      ∃ g' c', e = .returned (.agg (rmA c (some ⟨g', 0, none⟩) cs.length c' (cnt + 1) (acV cs 2 ce 0 0 v))) ∧ (g' = g ∨ w.heap.size ≤ g') ∧ RowR w' g' (clV cs 2 ce 0 v) c' ∧ Kept [] w w' := by
  have hgl := hR.lt
  have HL := hidOf (fun W (k : Kept [] w W) => rstore_any g cs cap cnt a ce 0 v W (hR.kept k (by simp)) hl c0 c1)
  clear hR hl
  generalize acV cs 2 ce 0 0 v = AC at *
  generalize clV cs 2 ce 0 v = CC at *
  generalize cs.length = n at *
  obtain ⟨b, hb⟩ : ∃ b, b = w.heap.size := ⟨_, rfl⟩
  have ST := hidOf (three_new 35 88 35 w (rmA c (some ⟨g, 0, none⟩) n cap cnt a) (pkA ⟨st, ce, v⟩) rmZ hb)
  go_enter Tryd.func38, Tryd.ntmps38
  go_upto_region 1 with (fail)
  rw [← hb]
  refine gen_world (fun W => RW 35 W b (rmA c (some ⟨g, 0, none⟩) n cap cnt a) ∧ RW 88 W (b + 1) (pkA ⟨st, ce, v⟩) ∧ RW 35 W (b + 1 + 1) rmZ ∧ Kept [] w W) ST.out ?_
  have hbw : w.heap.size ≤ b := by omega
  clear ST hb
  rintro W ⟨B0, P0, C0, hk⟩
  refine wp_region_held_drew (S := fun w' => RW 35 w' b (rmA c (some ⟨g, 0, none⟩) n cap cnt a) ∧ RW 88 w' (b + 1) (pkA ⟨st, ce, v⟩) ∧ ∃ O, RW 35 w' (b + 1 + 1) O) (by kernel_rfl) ⟨B0, P0, _, C0⟩ (fun hS => ?_)
  have hk' : Kept [] w W.drew := hk.drew
  have B0' : RW 35 W.drew b (rmA c (some ⟨g, 0, none⟩) n cap cnt a) := B0
  have C0' : RW 35 W.drew (b + 1 + 1) rmZ := C0
  have P0' : RW 88 W.drew (b + 1) (pkA ⟨st, ce, v⟩) := P0
  clear hk B0 C0 P0
  generalize W.drew = W at hk' B0' C0' P0' hS ⊢
  have hk := hk'
  have B0 := B0'
  have C0 := C0'
  have P0 := P0'
  clear hk' B0' C0' P0'
  refine wpAnyH_take (i := 0) (oi := { dst := some 5, op := Op.fieldAddr 35 (Operand.tmp 2) 0, type := 0, pos := "law.go:46", after := #[], guard := none }) (v := Value.pointer (some ⟨b, 0, none⟩)) rfl (by kernel_rfl) (by kernel_rfl) (by kernel_rfl) (fun _ _ _ h => h) (Or.inl ⟨rfl, fun _ _ => by kernel_rfl⟩) hS ?_
  try simp only [Act.put, List.setIfInBounds_toArray, List.set_cons_zero, List.set_cons_succ]
  refine wpAnyH_take (i := 1) (oi := { dst := some 6, op := Op.load 23 (Operand.tmp 5), type := 23, pos := "law.go:46", after := #[{ on := 0, ground := Ground.data }], guard := none }) (v := Value.agg #[.int .i64 c.t, .int .i64 c.s, .int .i64 c.c, .int .i64 c.h, .int .i64 c.k, .int .i64 c.e, .int .i64 c.l]) rfl (by kernel_rfl) (by kernel_rfl) (by kernel_rfl) (fun _ _ _ h => h) (yieldsIf_load_mid (P := Tryd.prog) rfl 23 (.tmp 5) rfl b 0 rfl [.int .i64 c.t, .int .i64 c.s, .int .i64 c.c, .int .i64 c.h, .int .i64 c.k, .int .i64 c.e, .int .i64 c.l] _ (fun _ h => range_rm0 h.1) Tryd.underlying23 rfl (by kernel_rfl)) hS ?_
  try simp only [Act.put, List.setIfInBounds_toArray, List.set_cons_zero, List.set_cons_succ]
  refine wpAnyH_take (i := 2) (oi := { dst := some 7, op := Op.fieldAddr 35 (Operand.tmp 2) 1, type := 0, pos := "law.go:46", after := #[], guard := none }) (v := Value.pointer (some ⟨b, 7, none⟩)) rfl (by kernel_rfl) (by kernel_rfl) (by kernel_rfl) (fun _ _ _ h => h) (Or.inl ⟨rfl, fun _ _ => by kernel_rfl⟩) hS ?_
  try simp only [Act.put, List.setIfInBounds_toArray, List.set_cons_zero, List.set_cons_succ]
  refine wpAnyH_take (i := 3) (oi := { dst := some 8, op := Op.load 33 (Operand.tmp 7), type := 33, pos := "law.go:46", after := #[{ on := 2, ground := Ground.data }], guard := none }) (v := Value.agg #[.slice (some ⟨g, 0, none⟩) n cap, .int .i64 cnt, .int .i64 a.k, .int .i64 a.c, .int .u64 a.v, .int .u64 a.o, .int .u64 a.n, .bool a.d]) rfl (by kernel_rfl) (by kernel_rfl) (by kernel_rfl) (fun _ _ _ h => h) (yieldsIf_load_mid (P := Tryd.prog) rfl 33 (.tmp 7) rfl b 7 rfl [.slice (some ⟨g, 0, none⟩) n cap, .int .i64 cnt, .int .i64 a.k, .int .i64 a.c, .int .u64 a.v, .int .u64 a.o, .int .u64 a.n, .bool a.d] _ (fun _ h => range_rm7 h.1) Tryd.underlying33 rfl (by kernel_rfl)) hS ?_
  try simp only [Act.put, List.setIfInBounds_toArray, List.set_cons_zero, List.set_cons_succ]
  refine wpAnyH_take (i := 4) (oi := { dst := some 9, op := Op.fieldAddr 88 (Operand.tmp 3) 1, type := 0, pos := "law.go:46", after := #[], guard := none }) (v := Value.pointer (some ⟨b + 1, 1, none⟩)) rfl (by kernel_rfl) (by kernel_rfl) (by kernel_rfl) (fun _ _ _ h => h) (Or.inl ⟨rfl, fun _ _ => by kernel_rfl⟩) hS ?_
  try simp only [Act.put, List.setIfInBounds_toArray, List.set_cons_zero, List.set_cons_succ]
  refine wpAnyH_take (i := 5) (oi := { dst := some 10, op := Op.load 3 (Operand.tmp 9), type := 3, pos := "law.go:46", after := #[{ on := 4, ground := Ground.data }], guard := none }) (v := Value.int .i64 ce) rfl (by kernel_rfl) (by kernel_rfl) (by kernel_rfl) (fun _ _ _ h => h) (Or.inl ⟨rfl, fun w hSw => by have z := cell_of_blk hSw.2.1 (i := 1) (v := .int .i64 ce) rfl; go_simp⟩) hS ?_
  try simp only [Act.put, List.setIfInBounds_toArray, List.set_cons_zero, List.set_cons_succ]
  refine wpAnyH_take (i := 6) (oi := { dst := some 11, op := Op.fieldAddr 88 (Operand.tmp 3) 2, type := 0, pos := "law.go:46", after := #[], guard := none }) (v := Value.pointer (some ⟨b + 1, 2, none⟩)) rfl (by kernel_rfl) (by kernel_rfl) (by kernel_rfl) (fun _ _ _ h => h) (Or.inl ⟨rfl, fun _ _ => by kernel_rfl⟩) hS ?_
  try simp only [Act.put, List.setIfInBounds_toArray, List.set_cons_zero, List.set_cons_succ]
  refine wpAnyH_take (i := 7) (oi := { dst := some 12, op := Op.load 25 (Operand.tmp 11), type := 25, pos := "law.go:46", after := #[{ on := 6, ground := Ground.data }], guard := none }) (v := Value.int .u64 v) rfl (by kernel_rfl) (by kernel_rfl) (by kernel_rfl) (fun _ _ _ h => h) (Or.inl ⟨rfl, fun w hSw => by have z := cell_of_blk hSw.2.1 (i := 2) (v := .int .u64 v) rfl; go_simp⟩) hS ?_
  try simp only [Act.put, List.setIfInBounds_toArray, List.set_cons_zero, List.set_cons_succ]
  refine wpAnyH_ready (rs := [8]) (by kernel_rfl) (by simp) ?_
  refine AllReadyH.cons (o := { dst := some 13, op := Op.call { callee := Callee.value (Operand.func 68), args := #[Operand.tmp 8, Operand.tmp 10, Operand.const (Value.int IntKind.u64 0), Operand.tmp 12], argTypes := #[33, 3, 25, 25] }, type := 33, pos := "law.go:46", after := #[{ on := 3, ground := Ground.data }, { on := 5, ground := Ground.data }, { on := 7, ground := Ground.data }], guard := none }) rfl (fun K hK => ?_) AllReadyH.nil
  rw [if_pos (by rfl)]
  refine wp_calls 68 #[.agg #[.slice (some ⟨g, 0, none⟩) n cap, .int .i64 cnt, .int .i64 a.k, .int .i64 a.c, .int .u64 a.v, .int .u64 a.o, .int .u64 a.n, .bool a.d], .int .i64 ce, .int .u64 0, .int .u64 v] (by kernel_rfl) (fun v V => (∃ g' c', v = .agg #[.slice (some ⟨g', 0, none⟩) n c', .int .i64 (cnt + 1), .int .i64 AC.k, .int .i64 AC.c, .int .u64 AC.v, .int .u64 AC.o, .int .u64 AC.n, .bool AC.d] ∧ (g' = g ∨ W.heap.size ≤ g') ∧ RowR V g' CC c') ∧ Kept [] W V) ((HL.out _ hk).mono fun e w' ⟨g', c', h1, h2, h3, h4⟩ => ⟨_, h1, ⟨g', c', rfl, h2, h3⟩, h4⟩) ?_
  rintro _ w8 ⟨⟨g', c', rfl, h2, h3⟩, K8⟩
  have B8 := B0.kept K8 (by simp)
  have P8 := P0.kept K8 (by simp)
  have C8 := C0.kept K8 (by simp)
  try simp only [Act.put, List.setIfInBounds_toArray, List.set_cons_zero, List.set_cons_succ]
  refine hK.out _ _ (⟨B8, P8, _, C8⟩) (fun hS => ?_)
  clear hK K
  refine wpAnyH_take (i := 9) (oi := { dst := some 14, op := Op.build 35 #[(0, Operand.tmp 6), (1, Operand.tmp 13)], type := 35, pos := "law.go:46", after := #[{ on := 1, ground := Ground.data }, { on := 8, ground := Ground.data }], guard := none }) (v := Value.agg (rmA c (some ⟨g', 0, none⟩) n c' (cnt + 1) AC)) rfl (by kernel_rfl) (by kernel_rfl) (by kernel_rfl) (fun _ _ _ h => h) (Or.inl ⟨rfl, fun _ _ => by kernel_rfl⟩) hS ?_
  try simp only [Act.put, List.setIfInBounds_toArray, List.set_cons_zero, List.set_cons_succ]
  refine wpAnyH_ready (rs := [10]) (by kernel_rfl) (by simp) ?_
  refine AllReadyH.cons (o := { dst := none, op := Op.store 35 (Operand.tmp 4) (Operand.tmp 14), type := 0, pos := "law.go:46", after := #[{ on := 9, ground := Ground.data }, { on := 8, ground := Ground.chain }, { on := 0, ground := Ground.phase }, { on := 1, ground := Ground.phase }, { on := 2, ground := Ground.phase }, { on := 3, ground := Ground.phase }, { on := 4, ground := Ground.phase }, { on := 5, ground := Ground.phase }, { on := 6, ground := Ground.phase }, { on := 7, ground := Ground.phase }, { on := 8, ground := Ground.phase }, { on := 9, ground := Ground.phase }], guard := none }) rfl (fun K hK => ?_) AllReadyH.nil
  rw [if_pos (by rfl)]
  have o1 := C0.lt
  refine wp_store_row 35 (.tmp 4) (.tmp 14) rfl (b + 1 + 1) (rmA c (some ⟨g', 0, none⟩) n c' (cnt + 1) AC) rfl rfl 35 rmZ C8 (by rw [isT_rm.1]; rfl) rfl (rm_one _ _ _ _ _ _) ?_
  have D := C8.row (rmA c (some ⟨g', 0, none⟩) n c' (cnt + 1) AC)
  simp only [Act.put]
  refine hK.out _ _ (⟨B8.rowOther _ (by omega), P8.rowOther _ (by omega), _, D⟩) (fun hS => ?_)
  clear hK K
  refine wpAnyH_done (by kernel_rfl) ?_ _
  go_wp2
  refine bodyPost_ret (v := .agg (rmA c (some ⟨g', 0, none⟩) n c' (cnt + 1) AC)) ?_ rfl ⟨g', c', rfl, ?_, ?_, ?_⟩
  · obtain ⟨fs, hu⟩ := isT_rm.2
    exact results_cell_row Tryd.results38 _ _ (b + 1 + 1) 35 _ (0, 0) _ rfl D hu rfl (by rw [isT_rm.1]; rfl)
  · have := hk.size; exact h2.imp id (fun h => by omega)
  · refine rowR_far (l := [b + 1 + 1]) (w := w) (W := W) h3 ((Kept.refl [b + 1 + 1] w8).setRow (Or.inl (by simp)) _) (by simp; omega) hgl h2
  · exact (hk.trans K8).setRow (Or.inr (by omega)) _
end K
end Go.Proofs.YtjbdaejkofkcpaaDoor
namespace Go.Proofs.YtjbdaejkofkcpaaDoor
open Go.RowKit (Grown Hid Below intOf)
open Go.Deep
namespace K
set_option maxRecDepth 100000
/-- Cells, how many accesses there were, and the last one. -/
structure Mst where
  cs : List Int
  n : Int
  a : Acc
def pkS (k : Int) (p : Pk) (x : Mst) : Mst := if p.s = k then ⟨clV x.cs 2 p.c 0 p.v, x.n + 1, acV x.cs 2 p.c 0 0 p.v⟩ else x
def pkF (k : Int) (ps : List Pk) (x : Mst) : Mst := ps.foldl (fun y p => pkS k p y) x
theorem pkS_len (k : Int) (p : Pk) (x : Mst) : (pkS k p x).cs.length = x.cs.length := by
  unfold pkS; split
  · show (clV x.cs 2 p.c 0 p.v).length = _
    unfold clV; split <;> simp
  · rfl
theorem pkS_n (k : Int) (p : Pk) (x : Mst) : x.n ≤ (pkS k p x).n ∧ (pkS k p x).n ≤ x.n + 1 := by
  unfold pkS; split
  · show x.n ≤ x.n + 1 ∧ x.n + 1 ≤ x.n + 1; omega
  · omega
theorem pkF_len (k : Int) : ∀ (ps : List Pk) (x : Mst), (pkF k ps x).cs.length = x.cs.length
  | [], _ => rfl
  | p :: ps, x => (pkF_len k ps (pkS k p x)).trans (pkS_len k p x)
theorem pkF_n (k : Int) : ∀ (ps : List Pk) (x : Mst), x.n ≤ (pkF k ps x).n ∧ (pkF k ps x).n ≤ x.n + ps.length
  | [], x => by show x.n ≤ x.n ∧ x.n ≤ x.n + ((0 : Nat) : Int); omega
  | p :: ps, x => by
    have h1 := pkF_n k ps (pkS k p x)
    have h2 := pkS_n k p x
    show x.n ≤ (pkF k ps (pkS k p x)).n ∧ (pkF k ps (pkS k p x)).n ≤ x.n + (((p :: ps).length : Nat) : Int)
    rw [List.length_cons]; omega
theorem pkF_next (k : Int) (ps : List Pk) (x : Mst) {i : Nat} (h : i < ps.length) : pkF k (ps.take (i + 1)) x = pkS k (ps.getD i pk0) (pkF k (ps.take i) x) := by
  unfold pkF
  rw [List.take_add_one, List.foldl_append]
  simp [h]
theorem pk_row {w : World} {ao : Option Addr} {ps : List Pk} (h : SlOf 3 pkL w ao ps) {k : Nat} (hk : k < ps.length) :
    ∃ b off, ao = some ⟨b, off, none⟩ ∧ b < w.heap.size ∧ w.cell? ⟨b, off + k * 3, none⟩ = some (.int .i64 (ps.getD k pk0).s) ∧ w.cell? ⟨b, off + k * 3 + 1, none⟩ = some (.int .i64 (ps.getD k pk0).c) ∧ w.cell? ⟨b, off + k * 3 + 2, none⟩ = some (.int .u64 (ps.getD k pk0).v) := by
  obtain ⟨b, off, rfl, hb, hc⟩ := h (by omega)
  have e : ps.getD k pk0 = ps[k] := by simp [hk]
  rw [e]
  exact ⟨b, off, rfl, hb, hc k hk 0 _ rfl, hc k hk 1 _ rfl, hc k hk 2 _ rfl⟩
set_option maxHeartbeats 4000000 in
theorem poked_any (m p r g : Nat) (c : Cfg) (x : Mst) (cap : Nat) (ao : Option Addr) (ps : List Pk) (n cp : Nat) (k : Int) (w : World) (hM : Mm w m p r c x.cs x.n x.a) (hR : RowR w g x.cs cap) (hgr : ¬ g = r) (hl : x.cs.length ≤ 17592186044415) (hn : n = ps.length)
    (hs : SlOf 3 pkL w ao ps) (hx : 0 < ps.length → ∀ ad, ao = some ad → ¬ ad.block = p ∧ ¬ ad.block = r) (hc : n ≤ 1000) (c0 : 0 ≤ x.n) (c1 : x.n < 4611686018427386000) :
    Calls Tryd.prog 12 #[.pointer (some ⟨m, 0, none⟩), .agg (rmA c (some ⟨g, 0, none⟩) x.cs.length cap x.n x.a), .slice ao n cp, .int .i64 k] w fun e w' =>
      ∃ g' c', e = .returned (.agg (rmA c (some ⟨g', 0, none⟩) x.cs.length c' (pkF k ps x).n (pkF k ps x).a)) ∧ (g' = g ∨ w.heap.size ≤ g') ∧ RowR w' g' (pkF k ps x).cs c' ∧ Mm w' m p r c (pkF k ps x).cs (pkF k ps x).n (pkF k ps x).a ∧ Kept [p, r] w w' := by
  obtain ⟨b, hb⟩ : ∃ b, b = w.heap.size := ⟨_, rfl⟩
  obtain ⟨L, hL⟩ : ∃ L, L = x.cs.length := ⟨_, rfl⟩
  rw [← hL]
  have ST := hidOf (two_new 35 35 w (rmA c (some ⟨g, 0, none⟩) L cap x.n x.a) rmZ hb)
  have hg := hR.lt
  have HM := hidOf hM
  have HMr : Hid (m < w.heap.size ∧ p < w.heap.size ∧ r < w.heap.size) := ⟨lt_of_blk hM.st, lt_of_blk hM.bk.st, lt_of_blk hM.bk.row⟩
  have HR := hidOf hR
  have HS := hidOf hs
  have HN := hidOf hn
  have HLe := hidOf hL
  clear hM hR hs hn hL
  go_enter Tryd.func12, Tryd.ntmps12
  go_upto_region 1 with (fail)
  rw [← hb]
  refine gen_world (fun W => RW 35 W b (rmA c (some ⟨g, 0, none⟩) L cap x.n x.a) ∧ RW 35 W (b + 1) rmZ ∧ Kept [] w W) ST.out ?_
  have hbw : w.heap.size ≤ b := by omega
  clear ST hb
  rintro W ⟨B0, C0, K0⟩
  have HX := hidOf (And.intro B0 (And.intro C0 K0))
  clear B0 C0 K0
  go_wp2
  go_loopw [13] (fun i wr => ∃ (j g' c' : Nat), j ≤ n ∧ i = .int .i64 j ∧ RW 35 wr b (rmA c (some ⟨g', 0, none⟩) L c' (pkF k (ps.take j) x).n (pkF k (ps.take j) x).a) ∧ RW 35 wr (b + 1) rmZ ∧ Hid (g' = g ∨ w.heap.size ≤ g') ∧ RowR wr g' (pkF k (ps.take j) x).cs c' ∧ Mm wr m p r c (pkF k (ps.take j) x).cs (pkF k (ps.take j) x).n (pkF k (ps.take j) x).a ∧ Kept [p, r] w wr) (fun i _ => n - (intOf i).toNat)
  case atStart =>
    obtain ⟨B0, C0, K0⟩ := HX.out
    exact ⟨0, g, cap, Nat.zero_le _, rfl, B0, C0, Or.inl rfl, HR.out.kept K0 (by simp), HM.out.new K0, K0.weaken (by simp)⟩
  case round =>
    obtain ⟨j, g', c', hj, rfl, D0, C0, hg0, R0, M0, KR⟩ := hrel
    clear HX HR HM
    by_cases hlt : j < n
    · have hltz : (j : Int) < (n : Int) := by omega
      have NX := hidOf (pkF_next k ps x (by rw [← HN.out]; exact hlt))
      obtain ⟨Y, hYe⟩ : ∃ Y, pkF k (ps.take j) x = Y := ⟨_, rfl⟩
      have yb := pkF_n k (ps.take j) x
      have hY : Y.cs.length = L := by rw [← hYe, pkF_len]; exact HLe.out.symm
      rw [List.length_take] at yb
      rw [hYe] at NX D0 R0 M0 yb
      clear hYe
      have y0 : 0 ≤ Y.n := by omega
      have y1 : Y.n < 4611686018427387904 := by have := HN.out; omega
      have hYl : Y.cs.length ≤ 17592186044415 := by rw [hY, HLe.out]; exact hl
      have SL := HS.out.kept KR (fun ad e => by have := hx (by have := HN.out; omega) ad e; simp; omega)
      obtain ⟨b1, o1, e1, lt1, s0, s1, s2⟩ := pk_row SL (by rw [← HN.out]; exact hlt)
      have hgr' : ¬ g' = r := by
        rcases hg0.out with h | h
        · rw [h]; exact hgr
        · have := HMr.out; omega
      have hgp' : ¬ g' = p := fun e => by obtain ⟨rest, z1, z2⟩ := R0; rw [e, M0.bk.st] at z1; simp at z1
      have hgb' : ¬ g' = b := fun e => by obtain ⟨rest, z1, z2⟩ := R0; rw [e, D0] at z1; simp at z1
      have bp : ¬ b = p := by have := HMr.out; omega
      have br : ¬ b = r := by have := HMr.out; omega
      have bm : ¬ b = m := by have := HMr.out; omega
      have cp' : ¬ b + 1 = p := by have := HMr.out; omega
      have cr' : ¬ b + 1 = r := by have := HMr.out; omega
      generalize ps.getD j pk0 = q at NX s0 s1 s2
      obtain ⟨sk, ce, v⟩ := q
      have ss0 : wr.cell? ⟨b1, o1 + j * 3, none⟩ = some (.int .i64 sk) := s0
      have ss1 : wr.cell? ⟨b1, o1 + j * 3 + 1, none⟩ = some (.int .i64 ce) := s1
      have ss2 : wr.cell? ⟨b1, o1 + j * 3 + 2, none⟩ = some (.int .u64 v) := s2
      clear s0 s1 s2 SL
      rw [e1]
      have HF := hidOf (And.intro D0 (And.intro C0 (And.intro R0 (And.intro M0 KR))))
      have szr := D0.lt
      clear D0 C0 R0 M0 KR
      by_cases hk : sk = k
      · subst hk
        have NX' : Hid (pkF sk (ps.take (j + 1)) x = ⟨clV Y.cs 2 ce 0 v, Y.n + 1, acV Y.cs 2 ce 0 0 v⟩) := NX.out.trans (if_pos rfl)
        clear NX
        have NX := NX'
        clear NX'
        obtain ⟨nb, hnb⟩ : ∃ nb, nb = wr.heap.size := ⟨_, rfl⟩
        go_upto_region 5 with (fail)
        rw [← hnb]
        refine gen_world (fun V => RW 88 V nb (pkA ⟨sk, ce, v⟩) ∧ Kept [] wr V) ?_ ?_
        · rw [hnb]; exact ⟨RW.new _ _ _, (Kept.refl [] wr).alloc _⟩
        have nle : wr.heap.size ≤ nb := by omega
        clear hnb ss0 ss1 ss2
        rintro V1 ⟨N1, KV1⟩
        have D1 := HF.out.1.kept KV1.drew (by simp)
        have C1 := HF.out.2.1.kept KV1.drew (by simp)
        have R1 := HF.out.2.2.1.kept KV1.drew (by simp)
        have M1 : Mm V1.drew m p r c Y.cs Y.n Y.a := HF.out.2.2.2.1.new KV1.drew
        have KV : Kept [p, r] w V1.drew := HF.out.2.2.2.2.then KV1.drew (by simp)
        have N1' : RW 88 V1.drew nb (pkA ⟨sk, ce, v⟩) := N1
        have np : ¬ nb = p := by have := HMr.out; have := HF.out.2.2.2.2.size; omega
        have nr : ¬ nb = r := by have := HMr.out; have := HF.out.2.2.2.2.size; omega
        clear HF KV1
        refine wp_region_held_drew (S := fun w' => RW 88 w' nb (pkA ⟨sk, ce, v⟩)) (by kernel_rfl) N1 (fun hS => ?_)
        refine wpAnyH_take (i := 0) (oi := { dst := some 21, op := Op.move (Operand.tmp 0), type := 29, pos := "law.go:53", after := #[], guard := none }) (v := Value.pointer (some ⟨m, 0, none⟩)) rfl (by kernel_rfl) (by kernel_rfl) (by kernel_rfl) (fun _ _ _ h => h) (Or.inl ⟨rfl, fun _ _ => by kernel_rfl⟩) hS ?_
        try simp only [Act.put, List.setIfInBounds_toArray, List.set_cons_zero, List.set_cons_succ]
        refine wpAnyH_take (i := 2) (oi := { dst := some 23, op := Op.fieldAddr 88 (Operand.tmp 10) 1, type := 0, pos := "law.go:53", after := #[], guard := none }) (v := Value.pointer (some ⟨nb, 1, none⟩)) rfl (by kernel_rfl) (by kernel_rfl) (by kernel_rfl) (fun _ _ _ h => h) (Or.inl ⟨rfl, fun _ _ => by kernel_rfl⟩) hS ?_
        try simp only [Act.put, List.setIfInBounds_toArray, List.set_cons_zero, List.set_cons_succ]
        refine wpAnyH_take (i := 3) (oi := { dst := some 24, op := Op.load 3 (Operand.tmp 23), type := 3, pos := "law.go:53", after := #[{ on := 2, ground := Ground.data }], guard := none }) (v := Value.int .i64 ce) rfl (by kernel_rfl) (by kernel_rfl) (by kernel_rfl) (fun _ _ _ h => h) (Or.inl ⟨rfl, fun w hSw => by have z := cell_of_blk hSw (i := 1) (v := .int .i64 ce) rfl; go_simp⟩) hS ?_
        try simp only [Act.put, List.setIfInBounds_toArray, List.set_cons_zero, List.set_cons_succ]
        refine wpAnyH_take (i := 4) (oi := { dst := some 25, op := Op.fieldAddr 88 (Operand.tmp 10) 2, type := 0, pos := "law.go:53", after := #[], guard := none }) (v := Value.pointer (some ⟨nb, 2, none⟩)) rfl (by kernel_rfl) (by kernel_rfl) (by kernel_rfl) (fun _ _ _ h => h) (Or.inl ⟨rfl, fun _ _ => by kernel_rfl⟩) hS ?_
        try simp only [Act.put, List.setIfInBounds_toArray, List.set_cons_zero, List.set_cons_succ]
        refine wpAnyH_take (i := 5) (oi := { dst := some 26, op := Op.load 25 (Operand.tmp 25), type := 25, pos := "law.go:53", after := #[{ on := 4, ground := Ground.data }], guard := none }) (v := Value.int .u64 v) rfl (by kernel_rfl) (by kernel_rfl) (by kernel_rfl) (fun _ _ _ h => h) (Or.inl ⟨rfl, fun w hSw => by have z := cell_of_blk hSw (i := 2) (v := .int .u64 v) rfl; go_simp⟩) hS ?_
        try simp only [Act.put, List.setIfInBounds_toArray, List.set_cons_zero, List.set_cons_succ]
        refine wpAnyH_ready (rs := [1]) (by kernel_rfl) (by simp) ?_
        refine AllReadyH.cons (o := { dst := some 22, op := Op.call { callee := Callee.value (Operand.func 20), args := #[Operand.tmp 21], argTypes := #[29] }, type := 52, pos := "law.go:53", after := #[{ on := 0, ground := Ground.data }], guard := none }) rfl (fun K hK => ?_) AllReadyH.nil
        rw [if_pos (by rfl)]
        refine wp_calls 20 #[.pointer (some ⟨m, 0, none⟩)] (by kernel_rfl) (fun v V => v = .pointer (some ⟨p, 0, none⟩) ∧ V = V1.drew) ((bank_any m p r c Y.cs Y.n Y.a V1.drew M1).mono fun e w' hh => ⟨_, hh.1, rfl, hh.2⟩) ?_
        rintro _ _ ⟨rfl, rfl⟩
        try simp only [Act.put, List.setIfInBounds_toArray, List.set_cons_zero, List.set_cons_succ]
        refine hK.out _ _ (N1') (fun hS => ?_)
        clear hK K
        refine wpAnyH_ready (rs := [6]) (by kernel_rfl) (by simp) ?_
        refine AllReadyH.cons (o := { dst := some 27, op := Op.call { callee := Callee.value (Operand.func 37), args := #[Operand.tmp 22, Operand.tmp 24, Operand.const (Value.int IntKind.u64 0), Operand.tmp 26], argTypes := #[52, 3, 25, 25] }, type := 0, pos := "law.go:53", after := #[{ on := 1, ground := Ground.data }, { on := 3, ground := Ground.data }, { on := 5, ground := Ground.data }, { on := 1, ground := Ground.chain }], guard := none }) rfl (fun K hK => ?_) AllReadyH.nil
        rw [if_pos (by rfl)]
        refine wp_calls 37 #[.pointer (some ⟨p, 0, none⟩), .int .i64 ce, .int .u64 0, .int .u64 v] (by kernel_rfl) (fun u V => u = .tuple #[] ∧ Bk V p r (clV Y.cs 2 ce 0 v) (Y.n + 1) (acV Y.cs 2 ce 0 0 v) ∧ Kept [p, r] V1.drew V) ((store_any p r Y.cs Y.n Y.a ce 0 v V1.drew M1.bk y0 y1).mono fun e w' hh => ⟨_, hh.1, rfl, hh.2.1, hh.2.2⟩) ?_
        rintro _ w6 ⟨rfl, B6, K6⟩
        have N6 := N1'.kept K6 (by simp; omega)
        try simp only [Act.put, List.setIfInBounds_toArray, List.set_cons_zero, List.set_cons_succ]
        refine hK.out _ _ (N6) (fun hS => ?_)
        clear hK K
        refine wpAnyH_done (by kernel_rfl) ?_ _
        have nouse := hS
        clear nouse
        have M6 : Mm w6 m p r c (clV Y.cs 2 ce 0 v) (Y.n + 1) (acV Y.cs 2 ce 0 0 v) := Mm.step M1 K6 B6
        have D6 := D1.kept K6 (by simp; omega)
        have C6 := C1.kept K6 (by simp; omega)
        have R6 := R1.kept K6 (by simp; omega)
        have K7 : Kept [p, r] w w6 := KV.trans K6
        have HX6 := hidOf (And.intro M6 (And.intro D6 (And.intro C6 (And.intro R6 (And.intro K7 N6)))))
        have PR := hidOf (pokedRef_any sk ce v c g' Y.cs c' Y.n Y.a w6 R6 hYl y0 y1)
        rw [hY] at PR
        have szb := D6.lt
        have szc := C6.lt
        clear M6 D6 C6 R6 K7 N6 B6 K6 M1 D1 C1 R1 N1 N1' KV hS
        go_wp2_with (first
          | ((with_reducible change wpList _ _ _ (Oper.mk _ (Op.load 35 _) _ _ _ _ :: _) _ _); refine wpList_load_rw 35 isT_rm rfl (.tmp 5) rfl b rfl (rmA c (some ⟨g', 0, none⟩) L c' Y.n Y.a) rfl HX6.out.2.1 ?_)
          | ((with_reducible change wpList _ _ _ (Oper.mk _ (Op.load 88 _) _ _ _ _ :: _) _ _); refine wpList_load_rw 88 isT_pk rfl (.tmp 10) rfl nb rfl (pkA ⟨sk, ce, v⟩) rfl HX6.out.2.2.2.2.2 ?_))
        refine PR.out.mono ?_
        rintro e w8 ⟨g2, c2, rfl, h2, R8, K8⟩
        have D8 := HX6.out.2.1.kept K8 (by simp)
        have HX8 := hidOf (And.intro (HX6.out.1.new K8) (And.intro (HX6.out.2.2.1.kept K8 (by simp)) (And.intro R8 (HX6.out.2.2.2.2.1.then K8 (by simp)))))
        have G2 : Hid (g2 = g ∨ w.heap.size ≤ g2) := by
          rcases h2 with rfl | h2
          · exact hg0.out
          · exact Or.inr (by have := HX6.out.2.2.2.2.1.size; omega)
        have gb : ¬ g2 = b := fun e => by obtain ⟨rest, z1, z2⟩ := R8; rw [e] at z1; rw [D8] at z1; simp at z1
        clear PR HX6 K8 R8 h2
        go_wp2_with (first
          | ((with_reducible change wpList _ _ _ (Oper.mk _ (Op.store 35 _ _) _ _ _ _ :: _) _ _); refine wpList_store_rw 35 isT_rm rfl (.tmp 5) (.tmp 30) rfl b (rmA c (some ⟨g2, 0, none⟩) L c2 (Y.n + 1) (acV Y.cs 2 ce 0 0 v)) rfl rfl rfl (rm_one _ _ _ _ _ _) _ D8 rfl ?_))
        go_roundw
        case rel =>
          obtain ⟨MM, CC, RR, KK⟩ := HX8.out
          have kr : Kept [b] w8 (w8.setRow b (rmA c (some ⟨g2, 0, none⟩) L c2 (Y.n + 1) (acV Y.cs 2 ce 0 0 v))) := (Kept.refl [b] w8).setRow (Or.inl (by simp)) _
          refine ⟨j + 1, g2, c2, by omega, by go_num, ?_, CC.kept kr (by simp), G2, ?_, ?_, KK.then kr (by simp; omega)⟩
          · rw [NX.out]; exact D8.row _
          · rw [NX.out]; exact RR.kept kr (by simp; omega)
          · rw [NX.out]; exact MM.kept kr (by simp; omega) (by simp; omega) (by simp; omega)
        case measure => simp [intOf]; omega
      · have NX' : Hid (pkF k (ps.take (j + 1)) x = Y) := NX.out.trans (if_neg hk)
        have hkb : (sk == k) = false := by simp [hk]
        clear NX
        go_wp2
        go_roundw
        case rel =>
          have kr : Kept [] wr (wr.alloc (.cells (pkA ⟨sk, ce, v⟩) 88)) := (Kept.refl [] wr).alloc _
          obtain ⟨D0, C0, R0, M0, KR⟩ := HF.out
          refine ⟨j + 1, g', c', by omega, by go_num, ?_, C0.kept kr (by simp), hg0, ?_, ?_, KR.then kr (by simp)⟩
          · rw [NX'.out]; exact D0.kept kr (by simp)
          · rw [NX'.out]; exact R0.kept kr (by simp)
          · rw [NX'.out]; exact M0.new kr
        case measure => simp [intOf]; omega
    · have hje : j = n := by omega
      have e2 : ps.take j = ps := List.take_of_length_le (by rw [hje]; exact Nat.le_of_eq HN.out.symm)
      rw [e2] at D0 R0 M0
      have HF := hidOf (And.intro D0 (And.intro C0 (And.intro R0 (And.intro M0 KR))))
      have HMr' := HMr.out
      clear D0 C0 R0 M0 KR e2 HMr
      go_wp2_with (first
        | ((with_reducible change wpList _ _ _ (Oper.mk _ (Op.load 35 _) _ _ _ _ :: _) _ _); refine wpList_load_rw 35 isT_rm rfl (.tmp 5) rfl b rfl (rmA c (some ⟨g', 0, none⟩) L c' (pkF k ps x).n (pkF k ps x).a) rfl HF.out.1 ?_)
        | ((with_reducible change wpList _ _ _ (Oper.mk _ (Op.store 35 _ _) _ _ _ _ :: _) _ _); refine wpList_store_rw 35 isT_rm rfl (.tmp 8) (.tmp 32) rfl (b + 1) (rmA c (some ⟨g', 0, none⟩) L c' (pkF k ps x).n (pkF k ps x).a) rfl rfl rfl (rm_one _ _ _ _ _ _) rmZ HF.out.2.1 rfl ?_))
      obtain ⟨D0, C0, R0, M0, KR⟩ := HF.out
      have kr : Kept [b + 1] wr (wr.setRow (b + 1) (rmA c (some ⟨g', 0, none⟩) L c' (pkF k ps x).n (pkF k ps x).a)) := (Kept.refl [b + 1] wr).setRow (Or.inl (by simp)) _
      have hgb' : ¬ g' = b + 1 := fun e => by obtain ⟨rest, z1, z2⟩ := R0; rw [e, C0] at z1; simp at z1
      refine bodyPost_ret (v := .agg (rmA c (some ⟨g', 0, none⟩) L c' (pkF k ps x).n (pkF k ps x).a)) ?_ rfl ⟨g', c', rfl, hg0.out, R0.kept kr (by simp; omega), M0.kept kr (by simp; omega) (by simp; omega) (by simp; omega), KR.then kr (by simp; omega)⟩
      obtain ⟨fs, hu⟩ := isT_rm.2
      exact results_cell_row Tryd.results12 _ _ (b + 1) 35 _ (0, 0) _ rfl (C0.row _) hu rfl (by rw [isT_rm.1]; rfl)
end K
end Go.Proofs.YtjbdaejkofkcpaaDoor
namespace Go.Proofs.YtjbdaejkofkcpaaDoor
open Go.RowKit (Grown Hid Below intOf)
open Go.Deep
namespace K
set_option maxRecDepth 100000
/-- The document's help is the program's. -/
structure Rel (s : Hm) (t : Rh) : Prop where
  h : t.h = s.h
  d : t.d = decide (s.ph = 3)
  nx : s.ph ≤ 2 → t.nx = s.ph
  lv : s.ph = 1 ∨ s.ph = 2 → t.lv = s.lv
  sn : s.ph = 2 → t.s = s.sn
  tw : isW t.s
theorem Rel.start {h : Int} : Rel ⟨h, 0, 0, 0⟩ ⟨h, 0, 0, 0, false⟩ :=
  ⟨rfl, rfl, fun _ => rfl, fun _ => rfl, fun _ => rfl, by unfold isW; show (0 : Int) ≤ 0 ∧ (0 : Int) < 18446744073709551616; decide⟩
theorem Rel.down {s : Hm} {t : Rh} (h : t.h = s.h) (lv : t.lv = s.lv) (tw : isW t.s) : Rel s.down t.down := by
  unfold Hm.down Rh.down
  by_cases z : s.lv = 0
  · rw [if_pos z]
    refine ⟨h, ?_, fun a => by have a' : (3 : Nat) ≤ 2 := a; omega, fun a => by rcases a with a | a <;> (have a' : (3 : Nat) = _ := a; omega), fun a => by have a' : (3 : Nat) = 2 := a; omega, tw⟩
    show decide (t.lv = 0) = decide ((3 : Nat) = 3)
    rw [decide_eq_true (show t.lv = 0 by omega)]; rfl
  · rw [if_neg z]
    refine ⟨h, ?_, fun _ => rfl, fun _ => by show t.lv - 1 = s.lv - 1; omega, fun a => by have a' : (1 : Nat) = 2 := a; omega, tw⟩
    show decide (t.lv = 0) = decide ((1 : Nat) = 3)
    rw [decide_eq_false (show ¬ t.lv = 0 by omega)]; rfl
/-- The document's step, of a help that is the program's. -/
theorem rhstep_any (s : Hm) (t : Rh) (c : Cfg) (g : Nat) (cs : List Int) (cap : Nat) (cnt : Int) (a : Acc) (w : World) (rel : Rel s t) (hI : HI c s) (R : Rt c) (wd : Wds cs) (hR : RowR w g cs cap) (hl : cs.length ≤ 17592186044415) (c0 : 0 ≤ cnt) (c1 : cnt < 4611686018427387904) :
    Calls Tryd.prog 14 #[.agg (rhA t), .agg (rmA c (some ⟨g, 0, none⟩) cs.length cap cnt a)] w fun e w' => ∃ t' B, e = .returned (.tuple #[.agg (rhA t'), .agg B]) ∧ Rel (hF c cs s) t' ∧ Wv w g c cs.length (hC c cs s) (hN cnt s) (hA c cs a s) B w' ∧ Kept [] w w' := by
  have h6 := R.h1
  have hh : isW t.h := by rw [rel.h]; exact hI.h
  rcases (by have := hI.ph; omega : s.ph = 0 ∨ s.ph = 1 ∨ s.ph = 2 ∨ s.ph = 3) with e | e | e | e
  · have hd : t.d = false := by rw [rel.d]; exact decide_eq_false (by omega)
    have hn : t.nx = 0 := by rw [rel.nx (by omega), e]; rfl
    refine (rhstep_tall t c g cs cap cnt a w hR hl c0 c1 hh hd hn R wd).mono ?_
    rintro _ w' ⟨B, rfl, V, K⟩
    have e1 : hF c cs s = ⟨s.h, 1, tlV c (fd c cs (ixV s.h) 4), s.sn⟩ := if_pos e
    have e2 : hC c cs s = cs := if_neg (by omega)
    have e3 : hN cnt s = cnt + 1 := if_pos (by omega)
    have e4 : hA c cs a s = acV cs 1 (clV' c (ixV s.h) 4) (plainV s.h) 0 0 := if_pos e
    rw [e1, e2, e3, e4]
    rw [rel.h] at V ⊢
    exact ⟨_, B, rfl, ⟨rfl, rfl, fun _ => rfl, fun _ => rfl, fun z => by have z' : (1 : Nat) = 2 := z; omega, rel.tw⟩, V, K⟩
  · have l := hI.lv (Or.inl e)
    have hd : t.d = false := by rw [rel.d]; exact decide_eq_false (by omega)
    have hn : t.nx = 1 := by rw [rel.nx (by omega), e]; rfl
    have lv := rel.lv (Or.inl e)
    refine (rhstep_next t c g cs cap cnt a w hR hl c0 c1 hh hd hn wd (by omega) (by omega)).mono ?_
    rintro _ w' ⟨B, rfl, V, K⟩
    have e2 : hC c cs s = cs := if_neg (by omega)
    have e3 : hN cnt s = cnt + 1 := if_pos (by omega)
    have e4 : hA c cs a s = acV cs 1 (hX c s) (plainV s.h) 0 0 := (if_neg (by omega)).trans (if_pos e)
    have eX : clV' c (ixV t.h) (6 + t.lv) = hX c s := by unfold hX; rw [rel.h, lv]
    have eV : fd c cs (ixV t.h) (6 + t.lv) = rdG cs (hX c s) := by unfold fd; rw [eX]
    rw [e2, e3, e4]
    rw [eX, rel.h] at V
    refine ⟨_, B, rfl, ?_, V, K⟩
    rw [eV]
    by_cases m : mkB (rdG cs (hX c s)) = true
    · have e1 : hF c cs s = (Hm.mk s.h 1 s.lv (rdG cs (hX c s))).down := by unfold hF; rw [if_neg (by omega), if_pos e, if_pos m]
      rw [e1, if_pos m]
      exact Rel.down (s := ⟨s.h, 1, s.lv, rdG cs (hX c s)⟩) rel.h lv rel.tw
    · have e1 : hF c cs s = ⟨s.h, 2, s.lv, rdG cs (hX c s)⟩ := by unfold hF; rw [if_neg (by omega), if_pos e, if_neg m]
      rw [e1, if_neg m]
      exact ⟨rel.h, rfl, fun _ => rfl, fun _ => lv, fun _ => rfl, rd_word wd _⟩
  · have l := hI.lv (Or.inr e)
    have hd : t.d = false := by rw [rel.d]; exact decide_eq_false (by omega)
    have hn : t.nx = 2 := by rw [rel.nx (by omega), e]; rfl
    have lv := rel.lv (Or.inr e)
    have sn := rel.sn e
    refine (rhstep_mark t c g cs cap cnt a w hR hl c0 c1 hh hd hn rel.tw (by omega) (by omega)).mono ?_
    rintro _ w' ⟨B, rfl, V, K⟩
    have e2 : hC c cs s = clV cs 3 (hX c s) s.sn (markV s.sn) := if_pos e
    have e3 : hN cnt s = cnt + 1 := if_pos (by omega)
    have e4 : hA c cs a s = acV cs 3 (hX c s) (plainV s.h) s.sn (markV s.sn) := ((if_neg (by omega)).trans (if_neg (by omega))).trans (if_pos e)
    have eX : clV' c (ixV t.h) (6 + t.lv) = hX c s := by unfold hX; rw [rel.h, lv]
    rw [e2, e3, e4]
    rw [eX, rel.h, sn] at V
    refine ⟨_, B, rfl, ?_, V, K⟩
    have eS : (acV cs 3 (clV' c (ixV t.h) (6 + t.lv)) (plainV t.h) t.s (markV t.s)).d = hSw c cs s := by rw [eX, rel.h, sn]; rfl
    rw [eS]
    by_cases m : hSw c cs s = true
    · have e1 : hF c cs s = s.down := by unfold hF; rw [if_neg (by omega), if_neg (by omega), if_pos e, if_pos m]
      rw [e1, if_pos m]
      exact Rel.down rel.h lv rel.tw
    · have e1 : hF c cs s = ⟨s.h, 1, s.lv, s.sn⟩ := by unfold hF; rw [if_neg (by omega), if_neg (by omega), if_pos e, if_neg m]
      rw [e1, if_neg m]
      exact ⟨rel.h, rfl, fun _ => rfl, fun _ => lv, fun z => by have z' : (1 : Nat) = 2 := z; omega, rel.tw⟩
  · have hd : t.d = true := by rw [rel.d]; exact decide_eq_true e
    refine (rhstep_done t c g cs cap cnt a w hR hl c0 c1 hh hd).mono ?_
    rintro _ w' ⟨B, rfl, V, K⟩
    have e4 : hA c cs a s = a := ((if_neg (by omega)).trans (if_neg (by omega))).trans (if_neg (by omega))
    rw [(hF_done (c := c) (cs := cs) e).1, (hF_done (c := c) (cs := cs) e).2, show hN cnt s = cnt from if_neg (by omega), e4]
    exact ⟨t, B, rfl, rel, V, K⟩
/-- Both helps, both words, the boxes. -/
structure Lb (w wr : World) (q qm qh a m p r : Nat) (c : Cfg) (A : Array Value) (g c' : Nat) (s : Hm) (M H : Array Value) (cs : List Int) (cnt : Int) (acc : Acc) : Prop where
  hb : HB wr a s
  rh : RW 42 wr qh H
  rm : RW 35 wr qm M
  row : RowR wr g cs c'
  J : Jm w wr m p r c cs cnt acc
  bx : Bx 28 wr q c A
  gr : ¬ g = r
  oa : w.heap.size ≤ a
  om : w.heap.size ≤ qm
  oh : w.heap.size ≤ qh
section
variable {w wr w' : World} {q qm qh a m p r g c' : Nat} {c : Cfg} {A M H : Array Value} {s : Hm} {cs : List Int} {cnt : Int} {acc : Acc}
theorem Lb.new (h : Lb w wr q qm qh a m p r c A g c' s M H cs cnt acc) (k : Kept [] wr w') : Lb w w' q qm qh a m p r c A g c' s M H cs cnt acc :=
  ⟨h.hb.kept k (by simp), h.rh.kept k (by simp), h.rm.kept k (by simp), h.row.kept k (by simp), h.J.new k, h.bx.new k, h.gr, h.oa, h.om, h.oh⟩
theorem row_rw {w : World} {g c' d : Nat} {cs : List Int} {T : TypeId} {Z : Array Value} (h : RowR w g cs c') (D : RW T w d Z) (hT : T ≠ 25) : ¬ g = d := h.ne D hT
theorem Lb.setm (h : Lb w wr q qm qh a m p r c A g c' s M H cs cnt acc) (B : Array Value) : Lb w (wr.setRow qm B) q qm qh a m p r c A g c' s B H cs cnt acc := by
  have k : Kept [qm] wr (wr.setRow qm B) := (Kept.refl _ _).setRow (Or.inl (by simp)) _
  have n1 := rw_ne12 (show RW 86 wr a _ from h.hb) h.rm (by decide)
  have n2 := rw_ne12 h.rh h.rm (by decide)
  have n3 := row_rw h.row h.rm (by decide)
  have n4 := rw_ne12 (show RW _ wr m _ from h.J.mm.st) h.rm (by decide)
  have n5 := rw_ne12 (show RW _ wr p _ from h.J.mm.bk.st) h.rm (by decide)
  have n6 := rw_ne12 (show RW _ wr r _ from h.J.mm.bk.row) h.rm (by decide)
  have n7 := rw_ne12 h.bx.c h.rm (by decide)
  have n8 := rw_ne12 h.bx.z h.rm (by decide)
  exact ⟨h.hb.kept k (by simp; exact n1), h.rh.kept k (by simp; exact n2), h.rm.row B, h.row.kept k (by simp; exact n3), h.J.far k (by have := h.om; simp; exact this) (by simp; exact n4) (by simp; exact n5) (by simp; exact n6), ⟨h.bx.c.kept k (by simp; exact n7), h.bx.z.kept k (by simp; exact n8)⟩, h.gr, h.oa, h.om, h.oh⟩
theorem Lb.seth (h : Lb w wr q qm qh a m p r c A g c' s M H cs cnt acc) (B : Array Value) : Lb w (wr.setRow qh B) q qm qh a m p r c A g c' s M B cs cnt acc := by
  have k : Kept [qh] wr (wr.setRow qh B) := (Kept.refl _ _).setRow (Or.inl (by simp)) _
  have n1 := rw_ne12 (show RW 86 wr a _ from h.hb) h.rh (by decide)
  have n2 := rw_ne12 h.rm h.rh (by decide)
  have n3 := row_rw h.row h.rh (by decide)
  have n4 := rw_ne12 (show RW _ wr m _ from h.J.mm.st) h.rh (by decide)
  have n5 := rw_ne12 (show RW _ wr p _ from h.J.mm.bk.st) h.rh (by decide)
  have n6 := rw_ne12 (show RW _ wr r _ from h.J.mm.bk.row) h.rh (by decide)
  have n7 := rw_ne12 h.bx.c h.rh (by decide)
  have n8 := rw_ne12 h.bx.z h.rh (by decide)
  exact ⟨h.hb.kept k (by simp; exact n1), h.rh.row B, h.rm.kept k (by simp; exact n2), h.row.kept k (by simp; exact n3), h.J.far k (by have := h.oh; simp; exact this) (by simp; exact n4) (by simp; exact n5) (by simp; exact n6), ⟨h.bx.c.kept k (by simp; exact n7), h.bx.z.kept k (by simp; exact n8)⟩, h.gr, h.oa, h.om, h.oh⟩
/-- The words are written, by whomever; the document's lie where they lie now. -/
theorem Lb.poke (h : Lb w wr q qm qh a m p r c A g c' s M H cs cnt acc) {g2 c2 : Nat} {ds : List Int} {cnt2 : Int} {acc2 : Acc} (k : Kept [p, r] wr w') (J : Jm w w' m p r c ds cnt2 acc2) (row : RowR w' g2 ds c2) (gr : ¬ g2 = r) : Lb w w' q qm qh a m p r c A g2 c2 s M H ds cnt2 acc2 := by
  have n1 := rw_ne12 h.rh (show RW _ wr p _ from h.J.mm.bk.st) (by decide)
  have n2 := rw_ne12 h.rh (show RW _ wr r _ from h.J.mm.bk.row) (by decide)
  have n3 := rw_ne12 h.rm (show RW _ wr p _ from h.J.mm.bk.st) (by decide)
  have n4 := rw_ne12 h.rm (show RW _ wr r _ from h.J.mm.bk.row) (by decide)
  exact ⟨hb_load h.hb h.J.mm k, h.rh.kept k (by simp; omega), h.rm.kept k (by simp; omega), row, J, h.bx.load (by decide) (by decide) h.J.mm k, gr, h.oa, h.om, h.oh⟩
/-- The program's help goes on. -/
theorem Lb.step (h : Lb w wr q qm qh a m p r c A g c' s M H cs cnt acc) {s2 : Hm} {ds : List Int} {cnt2 : Int} {acc2 : Acc} (k : Kept [a, p, r] wr w') (J : Jm w w' m p r c ds cnt2 acc2) (B : HB w' a s2) : HB w' a s2 ∧ RW 42 w' qh H ∧ RW 35 w' qm M ∧ RowR w' g cs c' ∧ Jm w w' m p r c ds cnt2 acc2 ∧ Bx 28 w' q c A := by
  have n1 := row_rw h.row (show RW 86 wr a _ from h.hb) (by decide)
  have n2 := row_rw h.row (show RW _ wr p _ from h.J.mm.bk.st) (by decide)
  have n3 := h.gr
  exact ⟨B, rw_far h.rh (by decide) (by decide) (by decide) h.hb h.J.mm k, rw_far h.rm (by decide) (by decide) (by decide) h.hb h.J.mm k, h.row.kept k (by simp; omega), J, h.bx.far (by decide) (by decide) (by decide) h.hb h.J.mm k⟩
theorem pkS_wd12 {k : Int} {p : Pk} {x : Mst} (h : Wds x.cs) (hp : p.wf) : Wds (pkS k p x).cs := by
  unfold pkS; split
  · exact wds_clV h 2 _ _ (by decide) hp
  · exact h
theorem pkF_wd12 {k : Int} : ∀ {ps : List Pk} {x : Mst}, Wds x.cs → (∀ p ∈ ps, p.wf) → Wds (pkF k ps x).cs
  | [], _, h, _ => h
  | p :: ps, x, h, hp => pkF_wd12 (ps := ps) (x := pkS k p x) (pkS_wd12 h (hp p (by simp))) (fun y hy => hp y (by simp [hy]))
end
end K
end Go.Proofs.YtjbdaejkofkcpaaDoor
