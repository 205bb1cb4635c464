/-
  Arguments: an entry, entries, words with their room.
-/
import Derived.Test.YtheheepblkhfaaaCEnt
namespace Go.Proofs.Ytheheepblkhfaaa
set_option maxRecDepth 100000
open Go.ChangeShapes Go.WideShapes Go.ChangeAt Go.RowKit
open Go.Deep
theorem flat_ent : (flat Try.prog 3 24) = some [.int .u64, .int .u64, .int .u64] := by kernel_rfl
theorem cells_ent : Try.prog.cellsOf 24 = 3 := by kernel_rfl
theorem ent_cells {cs : List Value} (h : F2 [.int .u64, .int .u64, .int .u64] cs) : ∃ e : Ent, cs = eC e ∧ True := by
  obtain ⟨a0, r, rfl, _, h⟩ := F2_int h
  obtain ⟨a1, r, rfl, _, h⟩ := F2_int h
  obtain ⟨a2, r, rfl, _, h⟩ := F2_int h
  obtain rfl := F2_nil h
  exact ⟨⟨a0, a1, a2⟩, rfl, trivial⟩
section
variable {H : Type} {enc : TypeId × Value → H} {w : World} {r : Reach} {b0 base : Nat} {spare : Nat → Bool} {held : Bool} {v : Value} {d : DataW H} {p : List MemPlace}
theorem open_ent (hv : Value.okWide Try.prog w r b0 24 v) (h : DataW.Trod enc Try.prog w base spare held 24 v d p) : ∃ e : Ent, v = .agg #[.int .u64 e.n, .int .u64 e.b, .int .u64 e.r] := by
  obtain ⟨cs, rfl, hF⟩ := flat_agg (Or.inl ⟨_, Try.underlying24⟩) flat_ent hv h
  obtain ⟨e, hc, _⟩ := ent_cells hF
  exact ⟨e, by rw [show cs = cs.toList.toArray by simp, hc]; rfl⟩
theorem open_ents (hv : Value.okWide Try.prog w r b0 30 v) (h : DataW.Trod enc Try.prog w 0 (fun _ => true) true 30 v d p) :
    ∃ ao cap es, v = .slice ao (List.length es) cap ∧ SlE w ao es := by
  obtain ⟨ao, cap, xs, h1, h2, h3, h4, h5⟩ := open_slice_of (ks := [.int .u64, .int .u64, .int .u64]) eC (fun _ => True) Try.underlying30 flat_ent cells_ent (by decide) (fun cs hF => ent_cells hF) hv h
  exact ⟨ao, cap, xs, h1, h2⟩
theorem cap_of_words {ao : Option Addr} {n cap : Nat} (h : DataW.Trod enc Try.prog w base spare held 25 (.slice ao n cap) d p) : n ≤ cap ∧ (ao = none → cap = 0) := by
  obtain ⟨fuel, hd⟩ := h
  rcases open_slice Try.underlying25 hd with ⟨hcs, hx⟩ | ⟨ad, len', cap', m, n', D, Pl, hcs, hb, hl, hm, hmm, hx, hall⟩
  · simp [Value.cells] at hcs
    obtain ⟨rfl, rfl, rfl⟩ := hcs
    exact ⟨Nat.le_refl _, fun _ => rfl⟩
  · simp [Value.cells] at hcs
    obtain ⟨rfl, rfl, rfl⟩ := hcs
    exact ⟨hl, by simp⟩
end
end Go.Proofs.Ytheheepblkhfaaa
