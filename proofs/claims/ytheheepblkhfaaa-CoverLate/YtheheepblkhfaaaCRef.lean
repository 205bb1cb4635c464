/-
  The document's own test of whether an entry is covered.
-/
import Derived.Test.YtheheepblkhfaaaCCov
namespace Go.Proofs.Ytheheepblkhfaaa
set_option maxRecDepth 100000
open Go.RowKit
open Go.Deep
set_option maxHeartbeats 1000000 in
theorem rcovered_any (e : Ent) (ao : Option Addr) (xs : List Int) (n cap : Nat) (w : World) (hn : n = xs.length) (hs : Sl w ao xs) (hl : n ≤ 17592186044415) :
    Calls Try.prog 11 #[.agg #[.int .u64 e.n, .int .u64 e.b, .int .u64 e.r], .slice ao n cap] w fun o w' => o = .returned (.bool (cvB e xs)) ∧ Kept [] w w' := by
  have HN : Hid _ := hn
  clear hn
  obtain ⟨B, hB⟩ : ∃ B, B = w.heap.size := ⟨_, rfl⟩
  have Z0 := blk_alloc_new w (.cells #[.int .u64 e.n, .int .u64 e.b, .int .u64 e.r] 24)
  have K0 : Kept [] w (w.alloc (.cells #[.int .u64 e.n, .int .u64 e.b, .int .u64 e.r] 24)) := (Kept.refl _ _).alloc _
  go_enter Try.func11, Try.ntmps11
  go_wp2
  rw [← hB] at Z0 ⊢
  clear hB
  go_loopw [5] (fun i wr => ∃ k : Nat, k ≤ n ∧ i = .int .i64 k ∧ (xs.take k).any (lvB e) = false ∧ wr.heap[B]? = some (.cells #[.int .u64 e.n, .int .u64 e.b, .int .u64 e.r] 24 (0, 0)) ∧ Kept [] w wr) (fun i _ => n - (intOf i).toNat)
  case atStart => exact ⟨0, Nat.zero_le _, rfl, rfl, Z0, K0⟩
  case round =>
    clear Z0 K0
    obtain ⟨k, hk, rfl, hA, Z, K⟩ := hrel
    by_cases hlt : k < n
    · have hkx : k < xs.length := by have := HN.out; omega
      obtain ⟨b1, o1, rfl, _, c1⟩ := (hs.new K).cell hkx
      have HA : Hid _ := any_take_succ (lvB e) hkx
      have HT : Hid _ := any_of_take (lvB e) hkx
      generalize xs.getD k 0 = v at c1 HA HT
      have q1 := cell_of_blk Z (i := 1) rfl
      have q2 := cell_of_blk Z (i := 2) rfl
      by_cases h0 : v = 0
      · subst h0
        go_wp2_with fail
        go_quiet (fail)
        go_wp2
        go_roundw
        case rel => exact ⟨k + 1, by omega, by go_num, by rw [HA.out, hA]; rfl, by rw [blk_drewN]; exact Z, K.drewN _⟩
        case measure => simp [intOf]; omega
      · have z0 : (v == 0) = false := by simpa using h0
        by_cases h1 : e.b ≤ v
        · have d1 : decide (e.b ≤ v) = true := by simpa using h1
          by_cases h2 : v ≤ e.r
          · have d2 : decide (v ≤ e.r) = true := by simpa using h2
            have hq : lvB e v = true := by unfold lvB; rw [z0, d1, d2]; rfl
            go_wp2_with fail
            go_quiet (fail)
            go_wp2
            go_ret
            exact ⟨by rw [show cvB e xs = true from HT.out hq]; rfl, K.drewN _⟩
          · have d2 : decide (v ≤ e.r) = false := by simpa using h2
            have hq : lvB e v = false := by unfold lvB; rw [z0, d1, d2]; rfl
            go_wp2_with fail
            go_quiet (fail)
            go_wp2
            go_roundw
            case rel => exact ⟨k + 1, by omega, by go_num, by rw [HA.out, hA, hq]; rfl, by rw [blk_drewN]; exact Z, K.drewN _⟩
            case measure => simp [intOf]; omega
        · have d1 : decide (e.b ≤ v) = false := by simpa using h1
          have hq : lvB e v = false := by unfold lvB; rw [z0, d1]; rfl
          go_wp2_with fail
          go_quiet (fail)
          go_wp2
          go_roundw
          case rel => exact ⟨k + 1, by omega, by go_num, by rw [HA.out, hA, hq]; rfl, by rw [blk_drewN]; exact Z, K.drewN _⟩
          case measure => simp [intOf]; omega
    · have e2 : xs.take k = xs := List.take_of_length_le (by have := HN.out; omega)
      rw [e2] at hA
      go_wp2
      go_ret
      exact ⟨by rw [show cvB e xs = false from hA]; rfl, K⟩
end Go.Proofs.Ytheheepblkhfaaa
