/-
  The contracts of package cover: whether an entry is covered; and the document's.
-/
import Derived.Test.YtheheepblkhfaaaCEnt
namespace Go.Proofs.Ytheheepblkhfaaa
set_option maxRecDepth 100000
open Go.RowKit
open Go.Deep
/-- Did the entry live in that era? -/
def lvB (e : Ent) (x : Int) : Bool := !(x == 0) && decide (e.b ≤ x) && decide (x ≤ e.r)
/-- Is it covered? -/
def cvB (e : Ent) (xs : List Int) : Bool := xs.any (lvB e)
theorem lived_any (e : Ent) (x : Int) (w : World) : Calls Try.prog 21 #[.agg #[.int .u64 e.n, .int .u64 e.b, .int .u64 e.r], .int .u64 x] w fun o w' => o = .returned (.bool (lvB e x)) ∧ Kept [] w w' := by
  unfold lvB
  have K : Kept [] w (w.alloc (.cells #[.int .u64 e.n, .int .u64 e.b, .int .u64 e.r] 28)) := (Kept.refl _ _).alloc _
  by_cases h0 : x = 0
  · subst h0
    go_enter Try.func21, Try.ntmps21
    go_wp2
    go_ret
    exact ⟨by simp, K⟩
  · have z0 : (x == 0) = false := by simpa using h0
    by_cases h1 : e.b ≤ x
    · by_cases h2 : x ≤ e.r
      · go_enter Try.func21, Try.ntmps21
        go_wp2
        go_ret
        exact ⟨by simp [bne, h1, h2], K⟩
      · go_enter Try.func21, Try.ntmps21
        go_wp2
        go_ret
        exact ⟨by simp [h2], K⟩
    · go_enter Try.func21, Try.ntmps21
      go_wp2
      go_ret
      exact ⟨by simp; omega, K⟩
theorem any_take_succ (p : Int → Bool) {l : List Int} {k : Nat} (h : k < l.length) : (l.take (k + 1)).any p = ((l.take k).any p || p (l.getD k 0)) := by
  rw [take_next h 0]; simp
theorem any_of_take (p : Int → Bool) {l : List Int} {k : Nat} (h : k < l.length) (hp : p (l.getD k 0) = true) : l.any p = true := by
  rw [List.any_eq_true]; exact ⟨l[k], List.getElem_mem h, by simpa [h] using hp⟩
set_option maxHeartbeats 1000000 in
theorem index_any (e : Ent) (ao : Option Addr) (xs : List Int) (n cap : Nat) (w : World) (hn : n = xs.length) (hs : Sl w ao xs) (hl : n ≤ 17592186044415) :
    Calls Try.prog 24 #[.slice ao n cap, .func (.func 21) #[.agg #[.int .u64 e.n, .int .u64 e.b, .int .u64 e.r]] #[]] w fun o w' => ∃ k, o = .returned (.int .i64 k) ∧ decide (0 ≤ k) = cvB e xs ∧ Kept [] w w' := by
  have HN : Hid _ := hn
  clear hn
  go_enter Try.func24, Try.ntmps24
  go_wp2
  go_loopw [8] (fun i wr => ∃ k : Nat, k ≤ n ∧ i = .int .i64 k ∧ (xs.take k).any (lvB e) = false ∧ Kept [] w wr) (fun i _ => n - (intOf i).toNat)
  case atStart => exact ⟨0, Nat.zero_le _, rfl, rfl, Kept.refl _ _⟩
  case round =>
    obtain ⟨k, hk, rfl, hA, K⟩ := hrel
    by_cases hlt : k < n
    · have hkx : k < xs.length := by have := HN.out; omega
      obtain ⟨b1, o1, rfl, _, c1⟩ := (hs.new K).cell hkx
      have HA : Hid _ := any_take_succ (lvB e) hkx
      have HT : Hid _ := any_of_take (lvB e) hkx
      generalize xs.getD k 0 = v at c1 HA HT
      have hc := lived_any e v wr
      cases hq : lvB e v with
      | true =>
        rw [hq] at hc
        go_wp2_with (go_at_call 21; refine hc.mono ?_; rintro o w1 ⟨rfl, K1⟩)
        go_ret
        exact ⟨k, rfl, by rw [show cvB e xs = true from HT.out hq]; simp, K.trans K1⟩
      | false =>
        rw [hq] at hc
        go_wp2_with (go_at_call 21; refine hc.mono ?_; rintro o w1 ⟨rfl, K1⟩)
        go_roundw
        case rel => exact ⟨k + 1, by omega, by go_num, by rw [HA.out, hA, hq]; rfl, K.trans K1⟩
        case measure => simp [intOf]; omega
    · have e2 : xs.take k = xs := List.take_of_length_le (by have := HN.out; omega)
      rw [e2] at hA
      go_wp2
      go_ret
      exact ⟨-1, rfl, by rw [show cvB e xs = false from hA]; rfl, K⟩
theorem contains_any (e : Ent) (ao : Option Addr) (xs : List Int) (n cap : Nat) (w : World) (hn : n = xs.length) (hs : Sl w ao xs) (hl : n ≤ 17592186044415) :
    Calls Try.prog 20 #[.slice ao n cap, .func (.func 21) #[.agg #[.int .u64 e.n, .int .u64 e.b, .int .u64 e.r]] #[]] w fun o w' => o = .returned (.bool (cvB e xs)) ∧ Kept [] w w' := by
  have hc := index_any e ao xs n cap w hn hs hl
  clear hn hs
  go_enter Try.func20, Try.ntmps20
  go_wp2_with fail
  refine hc.mono ?_
  rintro o w1 ⟨k, rfl, hk, K1⟩
  go_wp2
  go_ret
  exact ⟨by rw [← hk]; rfl, K1⟩
theorem covered_any (e : Ent) (ao : Option Addr) (xs : List Int) (n cap : Nat) (w : World) (hn : n = xs.length) (hs : Sl w ao xs) (hl : n ≤ 17592186044415) :
    Calls Try.prog 10 #[.agg #[.int .u64 e.n, .int .u64 e.b, .int .u64 e.r], .slice ao n cap] w fun o w' => o = .returned (.bool (cvB e xs)) ∧ Kept [] w w' := by
  have K : Kept [] w (w.alloc (.cells #[.int .u64 e.n, .int .u64 e.b, .int .u64 e.r] 28)) := (Kept.refl _ _).alloc _
  have hc := contains_any e ao xs n cap _ hn (hs.new K) hl
  clear hn hs
  go_enter Try.func10, Try.ntmps10
  go_wp2_with fail
  refine hc.mono ?_
  rintro o w1 ⟨rfl, K1⟩
  go_wp2
  go_ret
  exact ⟨rfl, K.trans K1⟩
end Go.Proofs.Ytheheepblkhfaaa
