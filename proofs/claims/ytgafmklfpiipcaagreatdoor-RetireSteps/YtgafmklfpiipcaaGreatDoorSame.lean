/-
  Two rows that are the same: the document's own test of it answers true.
-/
import Derived.Test.YtgafmklfpiipcaaGreatDoorOpen
namespace Go.Proofs.YtgafmklfpiipcaaGreatDoor
set_option maxRecDepth 100000
open Go.ChangeShapes Go.WideShapes Go.ChangeAt Go.RowKit
open Go.Deep
theorem Sl.cell {w : World} {ao : Option Addr} {xs : List Int} (h : Sl w ao xs) {i : Nat} (hi : i < xs.length) : ∃ b off, ao = some ⟨b, off, none⟩ ∧ b < w.heap.size ∧ w.cell? ⟨b, off + i, none⟩ = some (.int .u64 (xs.getD i 0)) := by
  obtain ⟨⟨b, off, spot⟩, rfl, hc⟩ := h (by omega)
  have h1 := hc i hi
  have hs : spot = none := by have := World.cell?_spot (hc 0 (by omega)); simpa [Addr.add] using this
  subst hs
  rw [add_plain] at h1
  exact ⟨b, off, rfl, lt_of_cell h1, by rw [h1]; simp [hi]⟩
set_option maxRecDepth 100000 in
set_option maxHeartbeats 1000000 in
theorem same_eq (ao bo : Option Addr) (xs : List Int) (ca cb : Nat) (w : World) (ha : Sl w ao xs) (hb : Sl w bo xs) (hl : xs.length ≤ 17592186044415) :
    Calls Tryz.prog 38 #[.slice ao xs.length ca, .slice bo xs.length cb] w fun e w' => e = .returned (.bool true) ∧ Kept [] w w' := by
  go_enter Tryz.func38, Tryz.ntmps38
  go_wp2
  go_loopw [5] (fun i wr => ∃ k : Nat, k ≤ xs.length ∧ i = .int .i64 k ∧ Kept [] w wr) (fun i _ => xs.length - (intOf i).toNat)
  case atStart => exact ⟨0, Nat.zero_le _, rfl, Kept.refl _ _⟩
  case round =>
    obtain ⟨k, hk, rfl, K⟩ := hrel
    by_cases hlt : k < xs.length
    · obtain ⟨b1, o1, rfl, _, c1⟩ := (ha.new K).cell hlt
      obtain ⟨b2, o2, rfl, _, c2⟩ := (hb.new K).cell hlt
      generalize xs.getD k 0 = v at c1 c2
      go_wp2_with fail
      go_quiet (fail)
      go_wp2
      go_roundw
      case rel => exact ⟨k + 1, by omega, by go_num, K.drewN _⟩
      case measure => simp [intOf]; omega
    · go_wp2
      go_ret
      exact ⟨rfl, K⟩
end Go.Proofs.YtgafmklfpiipcaaGreatDoor
