/-
  The contracts of the inner functions of package slot: the words that a slot's word and a value's word are told by, in any world.
-/
import Derived.Test.YtgafmklfpiipcaaGreatDoorMem
namespace Go.Proofs.YtgafmklfpiipcaaGreatDoor.S
open Go.RowKit (Grown Hid Below)
open Go.Deep
/-- State, generation, dead, value, the word made dead. -/
def stV (x : Int) : Int := x % 4
def gnV (x : Int) : Int := if x / 4 ≤ 1073741823 then x / 4 else 1073741823
def ddB (x : Int) : Bool := x % 2 == 1
def ofV (x : Int) : Int := x / 2
def klV (x : Int) : Int := x - x % 2 + 1

theorem mask_3 (x : Int) (h0 : 0 ≤ x) (h1 : x < 18446744073709551616) : bits .and .u64 x 3 = x % 4 := by go_bits2
theorem mask_1 (x : Int) (h0 : 0 ≤ x) (h1 : x < 18446744073709551616) : bits .and .u64 x 1 = x % 2 := by go_bits2

theorem gnV_hi (x : Int) (h : 1073741823 < x / 4) : gnV x = 1073741823 := by unfold gnV; rw [if_neg (by omega)]
theorem gnV_lo (x : Int) (h : x / 4 ≤ 1073741823) : gnV x = x / 4 := by unfold gnV; rw [if_pos h]
theorem agg2 {a b c d : Int} (h : a = b) (k : c = d) : Ending.returned (.agg #[.int .i64 a, .int .i64 c]) = .returned (.agg #[.int .i64 b, .int .i64 d]) := by rw [h, k]
theorem ddB_eq (x : Int) : (x % 2 != 0) = ddB x := by
  unfold ddB; rw [Bool.eq_iff_iff]; simp; omega
/-- The word of a state and a generation, and of a value, dead or not, whatever they are. -/
def wdV (s g : Int) : Int := bits .or .u64 (IntKind.u64.wrap (IntKind.u64.wrap g * 4)) (IntKind.u64.wrap s)
def hwV (d : Bool) (v : Int) : Int := if d then bits .or .u64 (IntKind.u64.wrap (v * 2)) 1 else IntKind.u64.wrap (v * 2)
theorem or_add (x y : Int) (k : Nat) (hx : 0 ≤ x) (hy : 0 ≤ y) (hk : y < 2 ^ k) (hs : x * 2 ^ k + y < 18446744073709551616) : bits .or .u64 (IntKind.u64.wrap (x * 2 ^ k)) y = x * 2 ^ k + y := by
  obtain ⟨X, rfl⟩ := Int.eq_ofNat_of_zero_le hx
  obtain ⟨Y, rfl⟩ := Int.eq_ofNat_of_zero_le hy
  have e : ((X : Int) * 2 ^ k) = ((X * 2 ^ k : Nat) : Int) := by simp
  rw [e] at hs ⊢
  have hk' : Y < 2 ^ k := by exact_mod_cast hk
  generalize hZ : X * 2 ^ k = Z at *
  rw [IntKind.wrap_u64, Int.emod_eq_of_lt (by omega) (by omega), u64_or_nat _ _ (by omega) (by omega)]
  have := Nat.shiftLeft_add_eq_or_of_lt hk' X
  rw [Nat.shiftLeft_eq, hZ] at this
  rw [← this]; simp
theorem hwV_dead (v : Int) (h0 : 0 ≤ v) (h1 : v < 9223372036854775808) : hwV true v = v * 2 + 1 := by
  have := or_add v 1 1 h0 (by omega) (by omega) (by omega)
  rw [show ((2 : Int) ^ 1) = 2 from rfl] at this
  unfold hwV; simpa using this
/-! the document's own answers -/
theorem klV_of (x : Int) (h1 : x < 18446744073709551616) : (ddB x = true → klV x = x) ∧ (ddB x = false → klV x = x + 1 ∧ x + 1 < 18446744073709551616) := by
  unfold ddB klV; simp only [beq_iff_eq, beq_eq_false_iff_ne]; omega
/-- Whether a value, or a state and a generation, may be; their words. -/
def vaB (v : Int) : Bool := decide (v < 9223372036854775808)
def meB (s g : Int) : Bool := decide (0 ≤ s ∧ s ≤ 2 ∧ 0 ≤ g ∧ g ≤ 1073741823)
def meV (s g : Int) : Int := 4 * g + s
def afV (g l : Int) : Int := if (if l < 0 then 0 else if 1073741823 < l then 1073741823 else l) ≤ (if g < 0 then 0 else g) then 4 * (if l < 0 then 0 else if 1073741823 < l then 1073741823 else l) + 2 else 4 * (if g < 0 then 0 else g) + 4
theorem hw_bd (v : Int) : 0 ≤ hwV false v ∧ hwV false v < 18446744073709551616 := by
  unfold hwV; simp only [Bool.false_eq_true, if_false, IntKind.wrap_u64]; omega
theorem hw_lo (v : Int) (h0 : 0 ≤ v) (h1 : v < 9223372036854775808) : hwV false v = v * 2 := by
  unfold hwV; simp only [Bool.false_eq_true, if_false, IntKind.wrap_u64]; omega
theorem hw_hi (v : Int) (h0 : 9223372036854775808 ≤ v) (h1 : v < 18446744073709551616) : hwV false v = (v - 9223372036854775808) * 2 := by
  unfold hwV; simp only [Bool.false_eq_true, if_false, IntKind.wrap_u64]; omega
structure PW (B : Nat) (w1 : World) (a b : Value) : Prop where
  p0 : w1.cell? ⟨B, 0, none⟩ = some a
  p1 : w1.cell? ⟨B, 1, none⟩ = some b
  lt : B < w1.heap.size
theorem PW.grown {B : Nat} {w w' : World} {a b : Value} (h : PW B w a b) (g : Kept [] w w') : PW B w' a b :=
  ⟨(kept_cell g h.lt).trans h.p0, (kept_cell g h.lt).trans h.p1, Nat.lt_of_lt_of_le h.lt g.size⟩
theorem PW.new (w : World) (a b : Value) (t : Nat) : PW w.heap.size (w.alloc (.cells #[a, b] t)) a b :=
  ⟨by go_simp, by go_simp, by simp⟩
theorem wd_bd (s g : Int) : 0 ≤ wdV s g ∧ wdV s g < 18446744073709551616 := by
  have := bounds_u64 (wf_bits .or .u64 (IntKind.u64.wrap (IntKind.u64.wrap g * 4)) (IntKind.u64.wrap s))
  unfold wdV; omega
theorem wd_eq (s g : Int) (s0 : 0 ≤ s) (s1 : s ≤ 3) (g0 : 0 ≤ g) (g1 : g ≤ 1073741824) : wdV s g = 4 * g + s := by
  have := or_add g s 2 g0 s0 (by omega) (by omega)
  rw [show ((2 : Int) ^ 2) = 4 from rfl] at this
  unfold wdV
  rw [show IntKind.u64.wrap g = g by rw [IntKind.wrap_u64]; omega, show IntKind.u64.wrap s = s by rw [IntKind.wrap_u64]; omega, this]; omega
theorem meB_true {s g : Int} (h : meB s g = true) : 0 ≤ s ∧ s ≤ 2 ∧ 0 ≤ g ∧ g ≤ 1073741823 := by unfold meB at h; simpa using h
theorem meB_false {s g : Int} (h : meB s g = false) : s < 0 ∨ 2 < s ∨ g < 0 ∨ 1073741823 < g := by unfold meB at h; simp at h; omega
theorem gn_bd (x : Int) (h : 0 ≤ x) : 0 ≤ gnV x ∧ gnV x ≤ 1073741823 := by unfold gnV; split <;> omega
theorem meta_not (s g x : Int) (x0 : 0 ≤ x) (h : s < 0 ∨ g < 0 ∨ 1073741823 < g) : (stV x == s) = false ∨ (gnV x == g) = false := by
  have := gn_bd x x0
  have h2 : 0 ≤ stV x := by unfold stV; omega
  simp only [beq_eq_false_iff_ne]; omega
set_option maxRecDepth 100000 in
theorem rmeta_yes (s g : Int) (w : World) (h : meB s g = true) :
    Calls Tryz.prog 84 #[.int .i64 s, .int .i64 g] w fun e w' => e = .returned (.tuple #[.int .u64 (meV s g), .bool true]) ∧ Kept [] w w' := by
  obtain ⟨s0, s1, g0, g1⟩ := meB_true h
  clear h
  go_enter Tryz.func84, Tryz.ntmps84
  go_wp2
  go_ret2
  exact ⟨rfl, Kept.refl _ _⟩
set_option maxRecDepth 100000 in
theorem rmeta_no (s g : Int) (w : World) (h : meB s g = false) :
    Calls Tryz.prog 84 #[.int .i64 s, .int .i64 g] w fun e w' => e = .returned (.tuple #[.int .u64 0, .bool false]) ∧ Kept [] w w' := by
  have h := meB_false h
  go_enter Tryz.func84, Tryz.ntmps84
  go_wp2
  all_goals first | omega | (go_ret2; exact ⟨rfl, Kept.refl _ _⟩)
theorem af_out (g l G L : Int) (hG : G = if g < 0 then 0 else g) (hL : L = if l < 0 then 0 else if 1073741823 < l then 1073741823 else l) (h : L ≤ G) : afV g l = 4 * L + 2 := by
  unfold afV; rw [← hG, ← hL, if_pos h]
theorem af_in (g l G L : Int) (hG : G = if g < 0 then 0 else g) (hL : L = if l < 0 then 0 else if 1073741823 < l then 1073741823 else l) (h : G < L) : afV g l = 4 * G + 4 := by
  unfold afV; rw [← hG, ← hL, if_neg (by omega)]
end Go.Proofs.YtgafmklfpiipcaaGreatDoor.S
