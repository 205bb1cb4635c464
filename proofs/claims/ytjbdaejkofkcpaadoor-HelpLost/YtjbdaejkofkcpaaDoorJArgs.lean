/-
  The arguments of the laws that are structs: whose step comes, what is written.
-/
import Derived.Test.YtjbdaejkofkcpaaDoorFArgs
import Derived.Test.YtjbdaejkofkcpaaDoorJMath
namespace Go.Proofs.YtjbdaejkofkcpaaDoor
open Go.ChangeShapes Go.WideShapes Go.ChangeAt Go.RowKit
open Go.Deep
namespace K
set_option maxRecDepth 100000
variable {w : World} {H : Type} {enc : TypeId × Value → H}
def boC (x : Bool) : List Value := [.bool x]
theorem flat_bo : flat Tryd.prog 3 4 = some [.bool] := by kernel_rfl
theorem cells_bo : Tryd.prog.cellsOf 4 = 1 := by kernel_rfl
theorem bo_cells {cs : List Value} (h : F2 [.bool] cs) : ∃ p : Bool, cs = boC p ∧ True := by
  obtain ⟨a0, r, rfl, h2⟩ := F2_bool h
  obtain rfl := F2_nil h2
  exact ⟨a0, rfl, trivial⟩
def uwC (x : Int) : List Value := [.int .u64 x]
theorem flat_uw : flat Tryd.prog 3 25 = some [.int .u64] := by kernel_rfl
theorem cells_uw : Tryd.prog.cellsOf 25 = 1 := by kernel_rfl
theorem uw_cells {cs : List Value} (h : F2 [.int .u64] cs) : ∃ p : Int, cs = uwC p ∧ isW p := by
  obtain ⟨a0, r, rfl, w0, h⟩ := F2_int h
  obtain rfl := F2_nil h
  have := bounds_u64 w0
  exact ⟨a0, rfl, by unfold isW; omega⟩
theorem bo_row {w : World} {ao : Option Addr} {ts : List Bool} (h : SlOf 1 boC w ao ts) {k : Nat} (hk : k < ts.length) : ∃ b off, ao = some ⟨b, off, none⟩ ∧ b < w.heap.size ∧ w.cell? ⟨b, off + k, none⟩ = some (.bool (ts.getD k false)) := by
  obtain ⟨b, off, rfl, hb, hc⟩ := h (by omega)
  have e : ts.getD k false = ts[k] := by simp [hk]
  rw [e]
  have := hc k hk 0 _ rfl
  rw [Nat.mul_one, Nat.add_zero] at this
  exact ⟨b, off, rfl, hb, this⟩
theorem uw_row {w : World} {ao : Option Addr} {ts : List Int} (h : SlOf 1 uwC w ao ts) {k : Nat} (hk : k < ts.length) : ∃ b off, ao = some ⟨b, off, none⟩ ∧ b < w.heap.size ∧ w.cell? ⟨b, off + k, none⟩ = some (.int .u64 (ts.getD k 0)) := by
  obtain ⟨b, off, rfl, hb, hc⟩ := h (by omega)
  have e : ts.getD k 0 = ts[k] := by simp [hk]
  rw [e]
  have := hc k hk 0 _ rfl
  rw [Nat.mul_one, Nat.add_zero] at this
  exact ⟨b, off, rfl, hb, this⟩
def tuA (h : Int) (ao : Option Addr) (n cap : Nat) : Array Value := #[.int .u64 h, .slice ao n cap]
theorem isT_tu : IsT 63 2 := ⟨by kernel_rfl, _, Tryd.underlying63⟩
def loA (k : Int) (ao : Option Addr) (n cap : Nat) : Array Value := #[.int .i64 k, .slice ao n cap]
theorem isT_lo : IsT 76 2 := ⟨by kernel_rfl, _, Tryd.underlying76⟩
def hpA (h st : Int) (ao : Option Addr) (n cap : Nat) : Array Value := #[.int .u64 h, .int .i64 st, .slice ao n cap]
theorem isT_hp : IsT 28 3 := ⟨by kernel_rfl, _, Tryd.underlying28⟩
theorem open_turns {r : Reach} {b0 : Nat} {v : Value} {d : DataW H} {p : List MemPlace} (hv : Value.okWide Tryd.prog w r b0 63 v) (h : DataW.Trod enc Tryd.prog w 0 (fun _ => true) true 63 v d p) :
    ∃ (h : Int) (ao : Option Addr) (cap : Nat) (ts : List Bool), v = .agg (tuA h ao (List.length ts) cap) ∧ isW h ∧ SlOf 1 boC w ao ts := by
  obtain ⟨cs, rfl, hsz⟩ := okWide_struct Tryd.underlying63 hv
  obtain ⟨fuel, h⟩ := h
  have h' : DataW.trod enc Tryd.prog w 0 (fun _ => true) true fuel 63 cs.toList = some (d, p) := by simpa [Value.cells] using h
  obtain ⟨xs, m, _, _, hlen, hxl, hx⟩ := DataW.trod_struct Tryd.underlying63 h'
  have cc : Tryd.prog.cellsOf 63 = 2 := by kernel_rfl
  have w0 : Tryd.prog.cellsOf 25 = 1 := by kernel_rfl
  have w1 : Tryd.prog.cellsOf 61 = 1 := by kernel_rfl
  rw [cc] at hlen
  have hxl3 : xs.length = 2 := hxl
  have x0 := hx 0 _ rfl
  have x1 := hx 1 _ rfl
  rw [List.getElem?_eq_getElem (by omega)] at x0 x1
  obtain ⟨k, e0, b0⟩ := DataW.trod_int Tryd.underlying25 x0
  obtain ⟨ao, cap, ks, e1, S, G⟩ := open_slice_cells true (ks := [.bool]) boC (fun _ => True) Tryd.underlying61 flat_bo cells_bo (by decide) (fun cs hF => bo_cells hF) x1
  change List.take (Tryd.prog.cellsOf 25) (List.drop 0 cs.toList) = _ at e0
  change List.take (Tryd.prog.cellsOf 61) (List.drop 1 cs.toList) = _ at e1
  rw [w0] at e0
  rw [w1] at e1
  refine ⟨k, ao, cap, ks, ?_, ?_, S⟩
  · match hcs : cs.toList, hlen with
    | [a, b], _ =>
      rw [hcs] at e0 e1
      simp at e0 e1
      subst e0 e1
      rw [show cs = cs.toList.toArray by simp, hcs]
      rfl
  · have := bounds_u64 b0.2; unfold isW; omega
theorem open_lost {r : Reach} {b0 : Nat} {v : Value} {d : DataW H} {p : List MemPlace} (hv : Value.okWide Tryd.prog w r b0 76 v) (h : DataW.Trod enc Tryd.prog w 0 (fun _ => true) true 76 v d p) :
    ∃ (k : Int) (ao : Option Addr) (cap : Nat) (ts : List Int), v = .agg (loA k ao (List.length ts) cap) ∧ SlOf 1 uwC w ao ts ∧ (∀ x ∈ ts, isW x) := by
  obtain ⟨cs, rfl, hsz⟩ := okWide_struct Tryd.underlying76 hv
  obtain ⟨fuel, h⟩ := h
  have h' : DataW.trod enc Tryd.prog w 0 (fun _ => true) true fuel 76 cs.toList = some (d, p) := by simpa [Value.cells] using h
  obtain ⟨xs, m, _, _, hlen, hxl, hx⟩ := DataW.trod_struct Tryd.underlying76 h'
  have cc : Tryd.prog.cellsOf 76 = 2 := by kernel_rfl
  have w0 : Tryd.prog.cellsOf 3 = 1 := by kernel_rfl
  have w1 : Tryd.prog.cellsOf 24 = 1 := by kernel_rfl
  rw [cc] at hlen
  have hxl3 : xs.length = 2 := hxl
  have x0 := hx 0 _ rfl
  have x1 := hx 1 _ rfl
  rw [List.getElem?_eq_getElem (by omega)] at x0 x1
  obtain ⟨k, e0, b0⟩ := DataW.trod_int Tryd.underlying3 x0
  obtain ⟨ao, cap, ks, e1, S, G⟩ := open_slice_cells (0 : Int) (ks := [.int .u64]) uwC isW Tryd.underlying24 flat_uw cells_uw (by decide) (fun cs hF => uw_cells hF) x1
  change List.take (Tryd.prog.cellsOf 3) (List.drop 0 cs.toList) = _ at e0
  change List.take (Tryd.prog.cellsOf 24) (List.drop 1 cs.toList) = _ at e1
  rw [w0] at e0
  rw [w1] at e1
  refine ⟨k, ao, cap, ks, ?_, S, G⟩
  · match hcs : cs.toList, hlen with
    | [a, b], _ =>
      rw [hcs] at e0 e1
      simp at e0 e1
      subst e0 e1
      rw [show cs = cs.toList.toArray by simp, hcs]
      rfl
theorem open_play {r : Reach} {b0 : Nat} {v : Value} {d : DataW H} {p : List MemPlace} (hv : Value.okWide Tryd.prog w r b0 28 v) (h : DataW.Trod enc Tryd.prog w 0 (fun _ => true) true 28 v d p) :
    ∃ (h st : Int) (ao : Option Addr) (cap : Nat) (ps : List Pk), v = .agg (hpA h st ao (List.length ps) cap) ∧ isW h ∧ SlOf 3 pkL w ao ps ∧ (∀ x ∈ ps, x.wf) := by
  obtain ⟨cs, rfl, hsz⟩ := okWide_struct Tryd.underlying28 hv
  obtain ⟨fuel, h⟩ := h
  have h' : DataW.trod enc Tryd.prog w 0 (fun _ => true) true fuel 28 cs.toList = some (d, p) := by simpa [Value.cells] using h
  obtain ⟨xs, m, _, _, hlen, hxl, hx⟩ := DataW.trod_struct Tryd.underlying28 h'
  have cc : Tryd.prog.cellsOf 28 = 3 := by kernel_rfl
  have w0 : Tryd.prog.cellsOf 25 = 1 := by kernel_rfl
  have w1 : Tryd.prog.cellsOf 3 = 1 := by kernel_rfl
  have w2 : Tryd.prog.cellsOf 26 = 1 := by kernel_rfl
  rw [cc] at hlen
  have hxl3 : xs.length = 3 := hxl
  have x0 := hx 0 _ rfl
  have x1 := hx 1 _ rfl
  have x2 := hx 2 _ rfl
  rw [List.getElem?_eq_getElem (by omega)] at x0 x1 x2
  obtain ⟨k, e0, b0⟩ := DataW.trod_int Tryd.underlying25 x0
  obtain ⟨st, e1, b1⟩ := DataW.trod_int Tryd.underlying3 x1
  obtain ⟨ao, cap, ks, e2, S, G⟩ := open_slice_cells pk0 (ks := [.int .i64, .int .i64, .int .u64]) pkL Pk.wf Tryd.underlying26 flat_pk cells_pk (by decide) (fun cs hF => pk_cells hF) x2
  change List.take (Tryd.prog.cellsOf 25) (List.drop 0 cs.toList) = _ at e0
  change List.take (Tryd.prog.cellsOf 3) (List.drop 1 cs.toList) = _ at e1
  change List.take (Tryd.prog.cellsOf 26) (List.drop 2 cs.toList) = _ at e2
  rw [w0] at e0
  rw [w1] at e1
  rw [w2] at e2
  refine ⟨k, st, ao, cap, ks, ?_, ?_, S, G⟩
  · match hcs : cs.toList, hlen with
    | [a, b, d], _ =>
      rw [hcs] at e0 e1 e2
      simp at e0 e1 e2
      subst e0 e1 e2
      rw [show cs = cs.toList.toArray by simp, hcs]
      rfl
  · have := bounds_u64 b0.2; unfold isW; omega
end K
end Go.Proofs.YtjbdaejkofkcpaaDoor
