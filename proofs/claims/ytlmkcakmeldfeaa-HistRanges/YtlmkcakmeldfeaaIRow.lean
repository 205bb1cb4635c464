/-
  A row of ints that is written in place; parts of it change their places. Each int is a place of events, and is compared by what stands there.
-/
import Derived.Test.YtlmkcakmeldfeaaHEv
import Derived.BigRegion
namespace Go.Proofs.Ytlmkcakmeldfeaa.I
set_option maxRecDepth 100000
open Go.RowKit
open Go.Deep
open Go.Proofs.Ytlmkcakmeldfeaa.Q
abbrev Fn := Q.Fn
variable {ok : Pr → Prop} {L : Nat}
/-- The row g holds, from its place 0 on, these n ints. -/
def RF (ok : Pr → Prop) (w : World) (g n : Nat) (f : Fn) : Prop := ∃ cur : Array Value, w.heap[g]? = some (.cells cur 3 (0, 0)) ∧ ∀ i, i < n → cur[i]? = some (.int .i64 (f i).v) ∧ ok (f i)
theorem RF.lt {w : World} {g n : Nat} {f : Fn} (h : RF ok w g n f) : g < w.heap.size := by obtain ⟨c, h, _⟩ := h; exact lt_of_blk h
theorem RF.kept {l : List Nat} {w w' : World} {g n : Nat} {f : Fn} (h : RF ok w g n f) (k : Kept l w w') (hn : g ∉ l) : RF ok w' g n f := by
  obtain ⟨c, h, h2⟩ := h; exact ⟨c, k.blk h hn, h2⟩
theorem RF.new {w w' : World} {g n : Nat} {f : Fn} (h : RF ok w g n f) (k : Kept [] w w') : RF ok w' g n f := h.kept k (by simp)
theorem RF.free {w : World} {g n : Nat} {f : Fn} (h : RF ok w g n f) (i : Nat) : w.frozen? ⟨g, i, none⟩ = false := by obtain ⟨c, h, _⟩ := h; exact free_of_blk h i
theorem RF.c {w : World} {g n : Nat} {f : Fn} (h : RF ok w g n f) {i : Nat} (hi : i < n) : w.cell? ⟨g, i, none⟩ = some (.int .i64 (f i).v) := by
  obtain ⟨c, h, h2⟩ := h; exact cell_of_blk h (h2 i hi).1
theorem RF.isok {w : World} {g n : Nat} {f : Fn} (h : RF ok w g n f) {i : Nat} (hi : i < n) : ok (f i) := by
  obtain ⟨c, h, h2⟩ := h; exact (h2 i hi).2
theorem RF.put {w : World} {g n : Nat} {f : Fn} (h : RF ok w g n f) {i : Nat} (hi : i < n) (p : Pr) (hp : ok p) : RF ok (w.setCell ⟨g, i, none⟩ (.int .i64 p.v)) g n (upd f i p) := by
  obtain ⟨c, h, h2⟩ := h
  refine ⟨_, blk_set h _ _, fun t ht => ?_⟩
  have l0 := (Array.getElem?_eq_some_iff.1 (h2 i hi).1).1
  unfold upd
  by_cases e : t = i
  · subst e
    rw [if_pos rfl]
    exact ⟨by rw [Array.getElem?_setIfInBounds_self_of_lt l0], hp⟩
  · rw [if_neg e]
    exact ⟨by rw [Array.getElem?_setIfInBounds_ne (by omega)]; exact (h2 t ht).1, (h2 t ht).2⟩
theorem RF.xch {w : World} {g n : Nat} {f : Fn} (h : RF ok w g n f) {i j : Nat} (hi : i < n) (hj : j < n) {p q : Pr} (hp : f j = p) (hq : f i = q) :
    RF ok ((w.setCell ⟨g, i, none⟩ (.int .i64 p.v)).setCell ⟨g, j, none⟩ (.int .i64 q.v)) g n (xch f i j) := by
  subst hp hq; rw [← upd_xch]; exact (h.put hi _ (h.isok hj)).put hj _ (h.isok hi)
theorem Kept.put2 {w : World} {g : Nat} {a b : Nat} {x y : Value} : Kept [g] w ((w.setCell ⟨g, a, none⟩ x).setCell ⟨g, b, none⟩ y) :=
  ((Kept.refl [g] w).setCell (p := ⟨g, a, none⟩) (Or.inl (by simp)) x).setCell (p := ⟨g, b, none⟩) (Or.inl (by simp)) y
theorem RF.drew {w : World} {g n : Nat} {f : Fn} (h : RF ok w g n f) : RF ok w.drew g n f := h
/-- What the closure tells, wherever all but the row is as it was. -/
def Cmp (ok : Pr → Prop) (w : World) (g L : Nat) : Prop := ∀ W, Kept [g] w W → ∀ x y : Pr, ok x → ok y → Calls Try.prog 26 #[.int .i64 x.v, .int .i64 y.v, .pointer (some ⟨L, 0, none⟩)] W fun o w' => o = .returned (.int .i64 (cpI x.k y.k)) ∧ Kept [] W w'
theorem cmp_step {w w' : World} {g : Nat} (h : Hid (Cmp ok w g L)) (k : Kept [g] w w') : Hid (Cmp ok w' g L) := fun W K => h.out W (k.trans K)
theorem cmp_kw {w wr : World} {g : Nat} (K : Kept [g] w wr) (hC : Hid (Cmp ok w g L)) (x y : Pr) (hx : ok x) (hy : ok y) (c : Int) (hc : c = cpI x.k y.k) : Hid (∀ p : KW wr, Calls Try.prog 26 #[.int .i64 x.v, .int .i64 y.v, .pointer (some ⟨L, 0, none⟩)] p.val fun e w'' => e = .returned (.int .i64 c) ∧ ∃ q : KW wr, w'' = q.val) :=
  fun p => by subst hc; exact Calls.kw_of (hC.out p.val (Kept.of_kw K p) x y hx hy)
set_option maxHeartbeats 1000000 in
theorem swapRange_any (g n cap a b c : Nat) (f : Fn) (fv : Value) (w : World) (hR : RF ok w g n f) (h1 : a + c ≤ b) (h2 : b + c ≤ n) (hn : n ≤ 1000) :
    Calls Try.prog 71 #[.slice (some ⟨g, 0, none⟩) n cap, .int .i64 a, .int .i64 b, .int .i64 c, fv] w fun o w' => o = .returned (.tuple #[]) ∧ RF ok w' g n (swr f a b c) ∧ Kept [g] w w' := by
  go_enter Try.func71, Try.ntmps71
  go_wp2
  go_loopw [10] (fun i wr => ∃ k : Nat, k ≤ c ∧ i = .int .i64 k ∧ RF ok wr g n (swr f a b k) ∧ Kept [g] w wr) (fun i _ => c - (intOf i).toNat)
  case atStart => exact ⟨0, Nat.zero_le _, rfl, by rw [swr_zero]; exact hR, Kept.refl _ _⟩
  case round =>
    obtain ⟨k, hk, rfl, R, K⟩ := hrel
    by_cases hlt : k < c
    · obtain ⟨A, hA⟩ : ∃ A, A = a + k := ⟨_, rfl⟩
      obtain ⟨B, hB⟩ : ∃ B, B = b + k := ⟨_, rfl⟩
      have a0 := R.c (i := A) (by omega)
      have a1 := R.isok (i := A) (by omega)
      have b0 := R.c (i := B) (by omega)
      have b1 := R.isok (i := B) (by omega)
      have fr := R.free
      obtain ⟨p, hp⟩ : ∃ p, swr f a b k B = p := ⟨_, rfl⟩
      obtain ⟨q, hq⟩ : ∃ q, swr f a b k A = q := ⟨_, rfl⟩
      rw [hq] at a0 a1
      rw [hp] at b0 b1
      have e1 : IntKind.i64.wrap ((a : Int) + (k : Int)) = (A : Int) := by rw [IntKind.wrap_i64]; omega
      have e2 : IntKind.i64.wrap ((b : Int) + (k : Int)) = (B : Int) := by rw [IntKind.wrap_i64]; omega
      have z1 : (A : Int) < (n : Int) := by omega
      have z2 : (B : Int) < (n : Int) := by omega
      have n1 : ¬ A = B := by omega
      have n2 : ¬ B = A := by omega
      have NE : Hid (A = a + k ∧ B = b + k) := ⟨hA, hB⟩
      clear hA hB
      have HP : Hid (swr f a b k B = p ∧ swr f a b k A = q) := ⟨hp, hq⟩
      clear hp hq
      go_wp2_with fail
      go_region
      go_wp2
      go_roundw
      case rel =>
        refine ⟨k + 1, by omega, by go_num, ?_, (K.trans Kept.put2).drew⟩
        have R2 := R.xch (i := A) (j := B) (by omega) (by omega) HP.out.1 HP.out.2
        rw [NE.out.1, NE.out.2, swr_next f (by omega), ← NE.out.1, ← NE.out.2] at R2
        exact R2.drew
      case measure => simp [intOf]; omega
    · obtain rfl : k = c := by omega
      go_wp2
      go_end0
      exact ⟨rfl, R, K⟩
theorem swapRange_at (g n cap a b c : Nat) (x y z : Int) (f : Fn) (fv : Value) (w : World) (hR : RF ok w g n f) (h1 : a + c ≤ b) (h2 : b + c ≤ n) (hn : n ≤ 1000) (hx : x = a) (hy : y = b) (hz : z = c) :
    Calls Try.prog 71 #[.slice (some ⟨g, 0, none⟩) n cap, .int .i64 x, .int .i64 y, .int .i64 z, fv] w fun o w' => o = .returned (.tuple #[]) ∧ RF ok w' g n (swr f a b c) ∧ Kept [g] w w' := by
  subst hx hy hz; exact swapRange_any g n cap a b c f fv w hR h1 h2 hn
set_option maxHeartbeats 1000000 in
theorem rotate_any (g n cap a m b : Nat) (f : Fn) (fv : Value) (w : World) (hR : RF ok w g n f) (h1 : a < m) (h2 : m < b) (h3 : b ≤ n) (hn : n ≤ 1000) :
    Calls Try.prog 68 #[.slice (some ⟨g, 0, none⟩) n cap, .int .i64 a, .int .i64 m, .int .i64 b, fv] w fun o w' => o = .returned (.tuple #[]) ∧ RF ok w' g n (rot f a m b) ∧ Kept [g] w w' := by
  go_enter Try.func68, Try.ntmps68
  go_wp2
  go_loopw [10, 11] (fun vi vj wr => ∃ (i j : Nat) (h : Fn), 0 < i ∧ 0 < j ∧ i ≤ m ∧ m + j ≤ n ∧ vi = .int .i64 i ∧ vj = .int .i64 j ∧ RF ok wr g n h ∧ Hid (rot h (m - i) m (m + j) = rot f a m b) ∧ Kept [g] w wr) (fun vi vj _ => (intOf vi).toNat + (intOf vj).toNat)
  case atStart => exact ⟨m - a, b - m, f, by omega, by omega, by omega, by omega, (by first | rfl | (congr 1; omega)), (by first | rfl | (congr 1; omega)), hR, (by show _ = _; congr 1 <;> omega), Kept.refl _ _⟩
  case round =>
    obtain ⟨i, j, h, hi, hj, him, hjn, rfl, rfl, R, E, K⟩ := hrel
    rcases Nat.lt_trichotomy i j with c | c | c
    · have t1 : ¬ (i : Int) = (j : Int) := by omega
      have t2 : ¬ (j : Int) < (i : Int) := by omega
      have hc := fun x y z => swapRange_at g n cap (m - i) (m + j - i) i x y z h fv wr R (by omega) (by omega) hn
      go_wp2_with fail
      refine (hc _ _ _ (by omega) (by omega) (by omega)).mono ?_
      rintro o w1 ⟨rfl, R1, K1⟩
      clear hc
      go_wp2
      go_roundw
      case rel => exact ⟨i, j - i, _, by omega, by omega, him, by omega, rfl, (by first | rfl | (congr 1; omega)), R1, (show _ = _ from (rot_right h c him).trans E.out), K.trans K1⟩
      case measure => simp [intOf]; omega
    · subst c
      have t1 : (i : Int) = (i : Int) := rfl
      have hc := fun x y z => swapRange_at g n cap (m - i) m i x y z h fv wr R (by omega) (by omega) hn
      go_wp2_with fail
      refine (hc _ _ _ (by omega) (by omega) (by omega)).mono ?_
      rintro o w1 ⟨rfl, R1, K1⟩
      clear hc
      go_wp2
      go_end0
      exact ⟨rfl, by rw [rot_same h him, E.out] at R1; exact R1, K.trans K1⟩
    · have t1 : ¬ (i : Int) = (j : Int) := by omega
      have t2 : (j : Int) < (i : Int) := by omega
      have hc := fun x y z => swapRange_at g n cap (m - i) m j x y z h fv wr R (by omega) (by omega) hn
      go_wp2_with fail
      refine (hc _ _ _ (by omega) (by omega) (by omega)).mono ?_
      rintro o w1 ⟨rfl, R1, K1⟩
      clear hc
      go_wp2
      go_roundw
      case rel => exact ⟨i - j, j, _, by omega, by omega, by omega, hjn, (by first | rfl | (congr 1; omega)), rfl, R1, (show _ = _ from (rot_left h c him).trans E.out), K.trans K1⟩
      case measure => simp [intOf]; omega
end Go.Proofs.Ytlmkcakmeldfeaa.I
