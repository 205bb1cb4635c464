/-
  The document's claim, as a value: where it is, and how it goes on.
-/
import Derived.Test.YtmmpafhfanldbaaDoorKStep
import Derived.Test.YtmmpafhfanldbaaDoorRw
import Derived.Test.YtmmpafhfanldbaaDoorMRef1
import Derived.Test.YtmmpafhfanldbaaDoorMRef4
import Derived.Test.YtmmpafhfanldbaaDoorMRef5
import Derived.Test.YtmmpafhfanldbaaDoorMNewR
namespace Go.Proofs.YtmmpafhfanldbaaDoor
open Go.RowKit (Grown Hid Below)
open Go.Deep
namespace K
/-- The document's claim. -/
structure RC where
  f : Int
  l : Int
  t : Bool
  w : Int
  g : Int
  d : Bool
def rcA (s : RC) : Array Value := #[.int .i64 s.f, .int .i64 s.l, .bool s.t, .int .u64 s.w, .int .u64 s.g, .bool s.d]
def rmA (c : Cfg) (ao : Option Addr) (n cap : Nat) (cnt : Int) (a : Acc) : Array Value := #[.int .i64 c.t, .int .i64 c.s, .int .i64 c.c, .int .i64 c.h, .int .i64 c.k, .int .i64 c.e, .int .i64 c.l, .slice ao n cap, .int .i64 cnt, .int .i64 a.k, .int .i64 a.c, .int .u64 a.v, .int .u64 a.o, .int .u64 a.n, .bool a.d]
theorem isT_rc : IsT 42 6 := ⟨by kernel_rfl, _, Tryd.underlying42⟩
theorem isT_rm : IsT 35 15 := ⟨by kernel_rfl, _, Tryd.underlying35⟩
def atV (s : RC) (m : Int) : Int := ((if s.f < 1 ∨ m < s.f then 1 else s.f) - 1 + s.l) % m + 1
set_option maxRecDepth 100000 in
set_option maxHeartbeats 2000000 in
theorem at_any (s : RC) (m : Int) (w : World) (m0 : 1 ≤ m) (m1 : m ≤ 64) (l0 : 0 ≤ s.l) (l1 : s.l ≤ 64) :
    Calls Tryd.prog 40 #[.agg (rcA s), .int .i64 m] w fun e w' => e = .returned (.int .i64 (atV s m)) ∧ Kept [] w w' := by
  obtain ⟨f, l, t, wd, g, d⟩ := s
  have Z := RW.new 42 w (rcA ⟨f, l, t, wd, g, d⟩)
  have K0 : Kept [] w (w.alloc (.cells (rcA ⟨f, l, t, wd, g, d⟩) 42)) := (Kept.refl _ _).alloc _
  have q0 := cell_of_blk Z (i := 0) (v := .int .i64 f) rfl
  have q1 := cell_of_blk Z (i := 1) (v := .int .i64 l) rfl
  have wl : w.heap.size < w.heap.size + 1 := by omega
  clear Z
  have l0' : 0 ≤ l := l0
  have l1' : l ≤ 64 := l1
  clear l0 l1
  have md : ¬ m = 0 := by omega
  by_cases h : f < 1 ∨ m < f
  · have e : atV ⟨f, l, t, wd, g, d⟩ m = l % m + 1 := by
      unfold atV; rw [if_pos h, show (1 : Int) - 1 + l = l by omega]
    rw [e]; clear e
    by_cases h2 : f < 1
    · go_enter Tryd.func40, Tryd.ntmps40
      go_wp2
      go_ret
      exact ⟨ret_i64 (wrap_id (by have := Int.emod_nonneg l md; omega) (by have := Int.emod_lt_of_pos l (by omega : 0 < m); omega)), K0⟩
    · have h3 : m < f := by omega
      go_enter Tryd.func40, Tryd.ntmps40
      go_wp2
      go_ret
      exact ⟨ret_i64 (wrap_id (by have := Int.emod_nonneg l md; omega) (by have := Int.emod_lt_of_pos l (by omega : 0 < m); omega)), K0⟩
  · have e : atV ⟨f, l, t, wd, g, d⟩ m = (f - 1 + l) % m + 1 := by
      unfold atV; rw [if_neg h]
    rw [e]; clear e
    have h2 : ¬ f < 1 := by omega
    have h3 : ¬ m < f := by omega
    have h4 : 0 ≤ f - 1 + l := by omega
    go_enter Tryd.func40, Tryd.ntmps40
    go_wp2
    go_ret
    exact ⟨ret_i64 (wrap_id (by have := Int.emod_nonneg (f - 1 + l) md; omega) (by have := Int.emod_lt_of_pos (f - 1 + l) (by omega : 0 < m); omega)), K0⟩

/-- On to the next slot. -/
def rgo (s : RC) (m : Int) : RC := ⟨s.f, s.l + 1, false, s.w, s.g, decide (m ≤ s.l + 1)⟩
set_option maxRecDepth 100000 in
set_option maxHeartbeats 2000000 in
theorem goes_any (s : RC) (m : Int) (w : World) (l0 : 0 ≤ s.l) (l1 : s.l ≤ 64) :
    Calls Tryd.prog 42 #[.agg (rcA s), .int .i64 m] w fun e w' => e = .returned (.agg (rcA (rgo s m))) ∧ Kept [] w w' := by
  obtain ⟨f, l, t, wd, g, d⟩ := s
  have l0' : 0 ≤ l := l0
  have l1' : l ≤ 64 := l1
  clear l0 l1
  have e : rcA (rgo ⟨f, l, t, wd, g, d⟩ m) = #[.int .i64 f, .int .i64 (l + 1), .bool false, .int .u64 wd, .int .u64 g, .bool (decide (m ≤ l + 1))] := rfl
  rw [e]; clear e
  unfold rcA
  go_enter Tryd.func42, Tryd.ntmps42
  go_wp2
  exact bodyPost_ret (v := .agg #[.int .i64 f, .int .i64 (l + 1), .bool false, .int .u64 wd, .int .u64 g, .bool (decide (m ≤ l + 1))]) (by simp [results, Tryd.results42, go_sem]) rfl ⟨rfl, ((Kept.refl [] w).alloc _).alloc _⟩
end K
end Go.Proofs.YtmmpafhfanldbaaDoor
