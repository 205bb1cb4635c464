/-
  Arguments opened: a slice of words.
-/
import Derived.Test.YtgafmklfpiipcaaGreatDoorFlat
import Derived.Test.YtgafmklfpiipcaaGreatDoorMake
namespace Go.Proofs.YtgafmklfpiipcaaGreatDoor
set_option maxRecDepth 100000
open Go.ChangeShapes Go.WideShapes Go.ChangeAt Go.RowKit
open Go.Deep
theorem bytes_u64 : Tryz.prog.bytesOf 25 = 8 := by kernel_rfl
theorem cells_u64 : Tryz.prog.cellsOf 25 = 1 := by kernel_rfl
theorem flat_u64 : flat Tryz.prog 2 25 = some [.int .u64] := by kernel_rfl
def isWord (x : Int) : Prop := (Lit.int .u64 x).wf = true
theorem SlOf.sl {w : World} {ao : Option Addr} {xs : List Int} (h : SlOf 1 (fun x => [Value.int .u64 x]) w ao xs) : Sl w ao xs := by
  intro h0
  obtain ⟨b, off, rfl, _, hc⟩ := h h0
  refine ⟨_, rfl, fun i hi => ?_⟩
  have := hc i hi 0 _ rfl
  rw [add_plain]; simpa using this
theorem open_words {H : Type} {enc : TypeId × Value → H} {w : World} {r : Reach} {b0 : Nat} {v : Value} {d : DataW H} {p : List MemPlace} (hv : Value.okWide Tryz.prog w r b0 24 v) (h : DataW.Trod enc Tryz.prog w 0 (fun _ => true) true 24 v d p) :
    ∃ ao cap xs, v = .slice ao (List.length xs) cap ∧ Sl w ao xs ∧ (∀ x ∈ xs, isWord x) ∧ ((∃ el sp, d = .slice el sp ∧ el.length = List.length xs) ∨ xs = []) ∧ (ao = none → cap = 0) := by
  obtain ⟨ao, cap, xs, h1, h2, h3, h4, h5⟩ := open_slice_of (ks := [.int .u64]) (fun x => [Value.int .u64 x]) isWord Tryz.underlying24 flat_u64 cells_u64 (by decide)
    (fun cs hF => by
      match cs, hF with
      | [c], ⟨⟨x, hx, hw⟩, _⟩ => exact ⟨x, by rw [hx], hw⟩) hv h
  exact ⟨ao, cap, xs, h1, SlOf.sl h2, h3, h4, h5⟩
theorem len_words {H : Type} {ts : List TypeId} {ds : List (DataW H)} (hsz : (DataW.weightsEach Tryz.prog ts ds).all (· ≤ reachBytes) = true) {j : Nat} {d : DataW H} {xs : List Int} (ht : ts[j]? = some 24)
    (hd : ∀ el sp, d = .slice el sp → ds[j]? = some (.slice el sp)) (hz : (∃ el sp, d = .slice el sp ∧ el.length = xs.length) ∨ xs = []) : xs.length ≤ 17592186044415 := by
  rcases hz with ⟨el, sp, rfl, hl⟩ | rfl
  · have := sized_slice hsz ht (hd el sp rfl) Tryz.underlying24
    rw [bytes_u64] at this
    simp only [reachBytes] at this
    omega
  · simp
end Go.Proofs.YtgafmklfpiipcaaGreatDoor
