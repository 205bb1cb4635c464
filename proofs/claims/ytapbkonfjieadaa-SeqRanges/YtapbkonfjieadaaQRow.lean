/-
  A row of pairs that is written in place; parts of it change their places.
-/
import Derived.Test.YtapbkonfjieadaaQSortM
import Derived.Test.YtapbkonfjieadaaQCmp
import Derived.BigRegion
namespace Go.Proofs.Ytapbkonfjieadaa.Q
set_option maxRecDepth 100000
open Go.RowKit
open Go.Deep
/-- The row g holds, from its place 0 on, these n pairs. -/
def RF (w : World) (g n : Nat) (f : Fn) : Prop := ∃ cur : Array Value, w.heap[g]? = some (.cells cur 52 (0, 0)) ∧ ∀ i, i < n → cur[i * 2]? = some (.int .u64 (f i).k) ∧ cur[i * 2 + 1]? = some (.int .u64 (f i).v)
theorem RF.lt {w : World} {g n : Nat} {f : Fn} (h : RF w g n f) : g < w.heap.size := by obtain ⟨c, h, _⟩ := h; exact lt_of_blk h
theorem RF.kept {l : List Nat} {w w' : World} {g n : Nat} {f : Fn} (h : RF w g n f) (k : Kept l w w') (hn : g ∉ l) : RF w' g n f := by
  obtain ⟨c, h, h2⟩ := h; exact ⟨c, k.blk h hn, h2⟩
theorem RF.new {w w' : World} {g n : Nat} {f : Fn} (h : RF w g n f) (k : Kept [] w w') : RF w' g n f := h.kept k (by simp)
theorem RF.free {w : World} {g n : Nat} {f : Fn} (h : RF w g n f) (i : Nat) : w.frozen? ⟨g, i, none⟩ = false := by obtain ⟨c, h, _⟩ := h; exact free_of_blk h i
theorem RF.c0 {w : World} {g n : Nat} {f : Fn} (h : RF w g n f) {i : Nat} (hi : i < n) : w.cell? ⟨g, i * 2, none⟩ = some (.int .u64 (f i).k) := by
  obtain ⟨c, h, h2⟩ := h; exact cell_of_blk h (h2 i hi).1
theorem RF.c1 {w : World} {g n : Nat} {f : Fn} (h : RF w g n f) {i : Nat} (hi : i < n) : w.cell? ⟨g, i * 2 + 1, none⟩ = some (.int .u64 (f i).v) := by
  obtain ⟨c, h, h2⟩ := h; exact cell_of_blk h (h2 i hi).2
theorem RF.ext {w : World} {g n : Nat} {f f' : Fn} (h : RF w g n f) (he : ∀ i, i < n → f' i = f i) : RF w g n f' := by
  obtain ⟨c, h, h2⟩ := h; exact ⟨c, h, fun i hi => by rw [he i hi]; exact h2 i hi⟩
def upd (f : Fn) (i : Nat) (p : Pr) : Fn := fun t => if t = i then p else f t
theorem RF.put {w : World} {g n : Nat} {f : Fn} (h : RF w g n f) {i : Nat} (hi : i < n) (p : Pr) : RF ((w.setCell ⟨g, i * 2, none⟩ (.int .u64 p.k)).setCell ⟨g, i * 2 + 1, none⟩ (.int .u64 p.v)) g n (upd f i p) := by
  obtain ⟨c, h, h2⟩ := h
  refine ⟨_, blk_set (blk_set h _ _) _ _, fun t ht => ?_⟩
  have l0 := (Array.getElem?_eq_some_iff.1 (h2 i hi).1).1
  have l1 := (Array.getElem?_eq_some_iff.1 (h2 i hi).2).1
  unfold upd
  by_cases e : t = i
  · subst e
    rw [if_pos rfl]
    constructor
    · rw [Array.getElem?_setIfInBounds_ne (by omega), Array.getElem?_setIfInBounds_self_of_lt l0]
    · rw [Array.getElem?_setIfInBounds_self_of_lt (by simpa using l1)]
  · rw [if_neg e]
    constructor
    · rw [Array.getElem?_setIfInBounds_ne (by omega), Array.getElem?_setIfInBounds_ne (by omega)]; exact (h2 t ht).1
    · rw [Array.getElem?_setIfInBounds_ne (by omega), Array.getElem?_setIfInBounds_ne (by omega)]; exact (h2 t ht).2
theorem upd_xch (f : Fn) (i j : Nat) : upd (upd f i (f j)) j (f i) = xch f i j := by
  funext t; unfold upd xch
  by_cases h : t = j
  · subst h; rw [if_pos rfl]; by_cases h2 : t = i
    · subst h2; rw [if_pos rfl]
    · rw [if_neg h2, if_pos rfl]
  · rw [if_neg h]; by_cases h2 : t = i
    · rw [if_pos h2, if_pos h2]
    · rw [if_neg h2, if_neg h2, if_neg h]
theorem RF.xch {w : World} {g n : Nat} {f : Fn} (h : RF w g n f) {i j : Nat} (hi : i < n) (hj : j < n) {p q : Pr} (hp : f j = p) (hq : f i = q) :
    RF ((((w.setCell ⟨g, i * 2, none⟩ (.int .u64 p.k)).setCell ⟨g, i * 2 + 1, none⟩ (.int .u64 p.v)).setCell ⟨g, j * 2, none⟩ (.int .u64 q.k)).setCell ⟨g, j * 2 + 1, none⟩ (.int .u64 q.v)) g n (xch f i j) := by
  subst hp hq; rw [← upd_xch]; exact (h.put hi _).put hj _
theorem Kept.put4 {w : World} {g : Nat} {a b c d : Nat} {x y z u : Value} : Kept [g] w ((((w.setCell ⟨g, a, none⟩ x).setCell ⟨g, b, none⟩ y).setCell ⟨g, c, none⟩ z).setCell ⟨g, d, none⟩ u) :=
  ((((Kept.refl [g] w).setCell (p := ⟨g, a, none⟩) (Or.inl (by simp)) x).setCell (p := ⟨g, b, none⟩) (Or.inl (by simp)) y).setCell (p := ⟨g, c, none⟩) (Or.inl (by simp)) z).setCell (p := ⟨g, d, none⟩) (Or.inl (by simp)) u
theorem RF.drew {w : World} {g n : Nat} {f : Fn} (h : RF w g n f) : RF w.drew g n f := h
set_option maxHeartbeats 1000000 in
theorem swapRange_any (g n cap a b c : Nat) (f : Fn) (fv : Value) (w : World) (hR : RF w g n f) (h1 : a + c ≤ b) (h2 : b + c ≤ n) (hn : n ≤ 1000) :
    Calls Try.prog 48 #[.slice (some ⟨g, 0, none⟩) n cap, .int .i64 a, .int .i64 b, .int .i64 c, fv] w fun o w' => o = .returned (.tuple #[]) ∧ RF w' g n (swr f a b c) ∧ Kept [g] w w' := by
  go_enter Try.func48, Try.ntmps48
  go_wp2
  go_loopw [10] (fun i wr => ∃ k : Nat, k ≤ c ∧ i = .int .i64 k ∧ RF wr g n (swr f a b k) ∧ Kept [g] w wr) (fun i _ => c - (intOf i).toNat)
  case atStart => exact ⟨0, Nat.zero_le _, rfl, by rw [swr_zero]; exact hR, Kept.refl _ _⟩
  case round =>
    obtain ⟨k, hk, rfl, R, K⟩ := hrel
    by_cases hlt : k < c
    · obtain ⟨A, hA⟩ : ∃ A, A = a + k := ⟨_, rfl⟩
      obtain ⟨B, hB⟩ : ∃ B, B = b + k := ⟨_, rfl⟩
      have a0 := R.c0 (i := A) (by omega)
      have a1 := R.c1 (i := A) (by omega)
      have b0 := R.c0 (i := B) (by omega)
      have b1 := R.c1 (i := B) (by omega)
      have fr := R.free
      obtain ⟨p, hp⟩ : ∃ p, swr f a b k B = p := ⟨_, rfl⟩
      obtain ⟨q, hq⟩ : ∃ q, swr f a b k A = q := ⟨_, rfl⟩
      rw [hq] at a0 a1
      rw [hp] at b0 b1
      have e1 : IntKind.i64.wrap ((a : Int) + (k : Int)) = (A : Int) := by rw [IntKind.wrap_i64]; omega
      have e2 : IntKind.i64.wrap ((b : Int) + (k : Int)) = (B : Int) := by rw [IntKind.wrap_i64]; omega
      have z1 : (A : Int) < (n : Int) := by omega
      have z2 : (B : Int) < (n : Int) := by omega
      have n1 : ¬ A = B := by omega
      have n2 : ¬ B = A := by omega
      have n3 : ¬ A * 2 + 1 = B * 2 := by omega
      have n4 : ¬ B * 2 = A * 2 + 1 := by omega
      have n5 : ¬ A * 2 = B * 2 + 1 := by omega
      have n6 : ¬ B * 2 + 1 = A * 2 := by omega
      have NE : Hid (A = a + k ∧ B = b + k) := ⟨hA, hB⟩
      clear hA hB
      have HP : Hid (swr f a b k B = p ∧ swr f a b k A = q) := ⟨hp, hq⟩
      clear hp hq
      go_wp2_with fail
      go_region
      go_wp2
      go_roundw
      case rel =>
        refine ⟨k + 1, by omega, by go_num, ?_, (K.trans Kept.put4).drew⟩
        have R2 := R.xch (i := A) (j := B) (by omega) (by omega) HP.out.1 HP.out.2
        rw [NE.out.1, NE.out.2, swr_next f (by omega), ← NE.out.1, ← NE.out.2] at R2
        exact R2.drew
      case measure => simp [intOf]; omega
    · obtain rfl : k = c := by omega
      go_wp2
      go_end0
      exact ⟨rfl, R, K⟩
theorem swapRange_at (g n cap a b c : Nat) (x y z : Int) (f : Fn) (fv : Value) (w : World) (hR : RF w g n f) (h1 : a + c ≤ b) (h2 : b + c ≤ n) (hn : n ≤ 1000) (hx : x = a) (hy : y = b) (hz : z = c) :
    Calls Try.prog 48 #[.slice (some ⟨g, 0, none⟩) n cap, .int .i64 x, .int .i64 y, .int .i64 z, fv] w fun o w' => o = .returned (.tuple #[]) ∧ RF w' g n (swr f a b c) ∧ Kept [g] w w' := by
  subst hx hy hz; exact swapRange_any g n cap a b c f fv w hR h1 h2 hn
set_option maxHeartbeats 1000000 in
theorem rotate_any (g n cap a m b : Nat) (f : Fn) (fv : Value) (w : World) (hR : RF w g n f) (h1 : a < m) (h2 : m < b) (h3 : b ≤ n) (hn : n ≤ 1000) :
    Calls Try.prog 46 #[.slice (some ⟨g, 0, none⟩) n cap, .int .i64 a, .int .i64 m, .int .i64 b, fv] w fun o w' => o = .returned (.tuple #[]) ∧ RF w' g n (rot f a m b) ∧ Kept [g] w w' := by
  go_enter Try.func46, Try.ntmps46
  go_wp2
  go_loopw [10, 11] (fun vi vj wr => ∃ (i j : Nat) (h : Fn), 0 < i ∧ 0 < j ∧ i ≤ m ∧ m + j ≤ n ∧ vi = .int .i64 i ∧ vj = .int .i64 j ∧ RF wr g n h ∧ Hid (rot h (m - i) m (m + j) = rot f a m b) ∧ Kept [g] w wr) (fun vi vj _ => (intOf vi).toNat + (intOf vj).toNat)
  case atStart => exact ⟨m - a, b - m, f, by omega, by omega, by omega, by omega, (by first | rfl | (congr 1; omega)), (by first | rfl | (congr 1; omega)), hR, (by show _ = _; congr 1 <;> omega), Kept.refl _ _⟩
  case round =>
    obtain ⟨i, j, h, hi, hj, him, hjn, rfl, rfl, R, E, K⟩ := hrel
    rcases Nat.lt_trichotomy i j with c | c | c
    · have t1 : ¬ (i : Int) = (j : Int) := by omega
      have t2 : ¬ (j : Int) < (i : Int) := by omega
      have hc := fun x y z => swapRange_at g n cap (m - i) (m + j - i) i x y z h fv wr R (by omega) (by omega) hn
      go_wp2_with fail
      refine (hc _ _ _ (by omega) (by omega) (by omega)).mono ?_
      rintro o w1 ⟨rfl, R1, K1⟩
      clear hc
      go_wp2
      go_roundw
      case rel => exact ⟨i, j - i, _, by omega, by omega, him, by omega, rfl, (by first | rfl | (congr 1; omega)), R1, (show _ = _ from (rot_right h c him).trans E.out), K.trans K1⟩
      case measure => simp [intOf]; omega
    · subst c
      have t1 : (i : Int) = (i : Int) := rfl
      have hc := fun x y z => swapRange_at g n cap (m - i) m i x y z h fv wr R (by omega) (by omega) hn
      go_wp2_with fail
      refine (hc _ _ _ (by omega) (by omega) (by omega)).mono ?_
      rintro o w1 ⟨rfl, R1, K1⟩
      clear hc
      go_wp2
      go_end0
      exact ⟨rfl, by rw [rot_same h him, E.out] at R1; exact R1, K.trans K1⟩
    · have t1 : ¬ (i : Int) = (j : Int) := by omega
      have t2 : (j : Int) < (i : Int) := by omega
      have hc := fun x y z => swapRange_at g n cap (m - i) m j x y z h fv wr R (by omega) (by omega) hn
      go_wp2_with fail
      refine (hc _ _ _ (by omega) (by omega) (by omega)).mono ?_
      rintro o w1 ⟨rfl, R1, K1⟩
      clear hc
      go_wp2
      go_roundw
      case rel => exact ⟨i - j, j, _, by omega, by omega, by omega, hjn, (by first | rfl | (congr 1; omega)), rfl, R1, (show _ = _ from (rot_left h c him).trans E.out), K.trans K1⟩
      case measure => simp [intOf]; omega
end Go.Proofs.Ytapbkonfjieadaa.Q
