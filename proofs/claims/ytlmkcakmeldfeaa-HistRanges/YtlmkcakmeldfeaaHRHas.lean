/-
  The document's small words: has a map a key, is a key among keys.
-/
import Derived.Test.YtlmkcakmeldfeaaHTurnM
import Derived.Test.YtlmkcakmeldfeaaHRMap
namespace Go.Proofs.Ytlmkcakmeldfeaa.Q
set_option maxRecDepth 100000
open Go.RowKit
open Go.Deep
set_option maxHeartbeats 1000000 in
theorem rhas_any (ao : Option Addr) (ps : List Pr) (n cap : Nat) (key : Int) (w : World) (hn : n = ps.length) (hs : SlP w ao ps) (hl : n ≤ 1000) :
    Calls Try.prog 56 #[.slice ao n cap, .int .u64 key] w fun o w' => o = .returned (.bool (gtH ps key)) ∧ Kept [] w w' := by
  have HN : Hid (n = ps.length) := hn
  have HS : Hid (SlP w ao ps) := hs
  have OUT : Hid (∀ k, k < n → (ps.getD k default).k = key → gtH ps key = true) := fun k hk h => by
    refine gtH_mem.2 ⟨ps.getD k default, ?_, h⟩
    rw [List.getD_eq_getElem?_getD, List.getElem?_eq_getElem (by omega)]; exact List.getElem_mem _
  have NO : Hid ((∀ k, k < n → (ps.getD k default).k ≠ key) → gtH ps key = false) := fun h => by
    cases q : gtH ps key
    · rfl
    · obtain ⟨p, hp, e⟩ := gtH_mem.1 q
      obtain ⟨i, hi, e2⟩ := List.mem_iff_getElem.1 hp
      exact absurd (by rw [show ps.getD i default = p by rw [← e2]; simp [hi]]; exact e) (h i (by omega))
  clear hn hs
  generalize gtH ps key = R at OUT NO ⊢
  go_enter Try.func56, Try.ntmps56
  go_wp2
  go_loopw [5] (fun i wr => ∃ k : Nat, k ≤ n ∧ i = .int .i64 k ∧ Hid (∀ j, j < k → (ps.getD j default).k ≠ key) ∧ Kept [] w wr) (fun i _ => n - (intOf i).toNat)
  case atStart => exact ⟨0, Nat.zero_le _, rfl, (fun j hj => absurd hj (by omega)), Kept.refl _ _⟩
  case round =>
    obtain ⟨k, hk, rfl, E, K⟩ := hrel
    by_cases hlt : k < n
    · obtain ⟨b1, o1, rfl, -, x0, -⟩ := SlP.row (HS.out.new K) (k := k) (by have := HN.out; omega)
      by_cases q : (ps.getD k default).k = key
      · have RR : Hid (R = true) := OUT.out k hlt q
        rw [q] at x0
        clear q E
        go_wp2
        go_ret
        exact ⟨by rw [RR.out]; rfl, K⟩
      · have E2 : Hid (∀ j, j < k + 1 → (ps.getD j default).k ≠ key) := fun j hj => by
          by_cases e : j = k
          · rw [e]; exact q
          · exact E.out j (by omega)
        generalize (ps.getD k default).k = x at x0 q
        clear E
        go_wp2
        go_roundw
        case rel => exact ⟨k + 1, by omega, by go_num, E2, K⟩
        case measure => simp [intOf]; omega
    · have RR : Hid (R = false) := NO.out (fun j hj => E.out j (by omega))
      clear E
      go_wp2
      go_ret
      exact ⟨by rw [RR.out]; rfl, K⟩
set_option maxHeartbeats 1000000 in
theorem rin_any (ao : Option Addr) (ks : List Int) (n cap : Nat) (key : Int) (w : World) (hn : n = ks.length) (hs : Sl w ao ks) (hl : n ≤ 1000) :
    Calls Try.prog 57 #[.slice ao n cap, .int .u64 key] w fun o w' => o = .returned (.bool (decide (key ∈ ks))) ∧ Kept [] w w' := by
  have HN : Hid (n = ks.length) := hn
  have HS : Hid (Sl w ao ks) := hs
  have OUT : Hid (∀ k, k < n → ks.getD k 0 = key → decide (key ∈ ks) = true) := fun k hk h => by
    refine decide_eq_true ?_
    rw [← h, List.getD_eq_getElem?_getD, List.getElem?_eq_getElem (by omega)]; exact List.getElem_mem _
  have NO : Hid ((∀ k, k < n → ks.getD k 0 ≠ key) → decide (key ∈ ks) = false) := fun h => by
    refine decide_eq_false (fun hp => ?_)
    obtain ⟨i, hi, e2⟩ := List.mem_iff_getElem.1 hp
    exact absurd (by rw [← e2]; simp [hi]) (h i (by omega))
  clear hn hs
  generalize decide (key ∈ ks) = R at OUT NO ⊢
  go_enter Try.func57, Try.ntmps57
  go_wp2
  go_loopw [5] (fun i wr => ∃ k : Nat, k ≤ n ∧ i = .int .i64 k ∧ Hid (∀ j, j < k → ks.getD j 0 ≠ key) ∧ Kept [] w wr) (fun i _ => n - (intOf i).toNat)
  case atStart => exact ⟨0, Nat.zero_le _, rfl, (fun j hj => absurd hj (by omega)), Kept.refl _ _⟩
  case round =>
    obtain ⟨k, hk, rfl, E, K⟩ := hrel
    by_cases hlt : k < n
    · obtain ⟨b1, o1, rfl, -, x0⟩ := Sl.cell (HS.out.new K) (i := k) (by have := HN.out; omega)
      by_cases q : ks.getD k 0 = key
      · have RR : Hid (R = true) := OUT.out k hlt q
        rw [q] at x0
        clear q E
        go_wp2
        go_ret
        exact ⟨by rw [RR.out]; rfl, K⟩
      · have E2 : Hid (∀ j, j < k + 1 → ks.getD j 0 ≠ key) := fun j hj => by
          by_cases e : j = k
          · rw [e]; exact q
          · exact E.out j (by omega)
        generalize ks.getD k 0 = x at x0 q
        clear E
        go_wp2
        go_roundw
        case rel => exact ⟨k + 1, by omega, by go_num, E2, K⟩
        case measure => simp [intOf]; omega
    · have RR : Hid (R = false) := NO.out (fun j hj => E.out j (by omega))
      clear E
      go_wp2
      go_ret
      exact ⟨by rw [RR.out]; rfl, K⟩
end Go.Proofs.Ytlmkcakmeldfeaa.Q
