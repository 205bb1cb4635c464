/-
  The plain mathematics of handle: what joining the four parts of a word gives ("joinV": its bounds, and its value where the parts fit), and that two arrays of four words are compared cell by cell. Conditions: none but those written.
-/
import Derived.Test.YtgafmklfpiipcaaGreatDoorMem
import Derived.WalkKit
import Derived.WalkLawsBesides
import Derived.WalkSpells
import Derived.Laws.StructEq
import Derived.OpenShut
namespace Go.Proofs.YtgafmklfpiipcaaGreatDoor

def joinV (a b c d : Int) : Int := bits .or .u64 (IntKind.u64.wrap (bits .or .u64 (IntKind.u64.wrap (bits .or .u64 (IntKind.u64.wrap (bits .or .u64 0 d * 2)) c * 1073741824)) b * 4294967296)) a
theorem joinV_bd (a b c d : Int) : 0 ≤ joinV a b c d ∧ joinV a b c d ≤ 18446744073709551615 := bounds_u64 (wf_bits _ _ _ _)
theorem or_add (x y : Int) (k : Nat) (hx : 0 ≤ x) (hy : 0 ≤ y) (hk : y < 2 ^ k) (hs : x * 2 ^ k + y < 18446744073709551616) : bits .or .u64 (IntKind.u64.wrap (x * 2 ^ k)) y = x * 2 ^ k + y := by
  obtain ⟨X, rfl⟩ := Int.eq_ofNat_of_zero_le hx
  obtain ⟨Y, rfl⟩ := Int.eq_ofNat_of_zero_le hy
  have e : ((X : Int) * 2 ^ k) = ((X * 2 ^ k : Nat) : Int) := by simp
  rw [e] at hs ⊢
  have hk' : Y < 2 ^ k := by exact_mod_cast hk
  generalize hZ : X * 2 ^ k = Z at *
  rw [IntKind.wrap_u64, Int.emod_eq_of_lt (by omega) (by omega), u64_or_nat _ _ (by omega) (by omega)]
  have := Nat.shiftLeft_add_eq_or_of_lt hk' X
  rw [Nat.shiftLeft_eq, hZ] at this
  rw [← this]; simp
theorem joinV_eq (a b c d : Int) (a0 : 0 ≤ a) (a1 : a < 4294967296) (b0 : 0 ≤ b) (b1 : b < 1073741824) (c0 : 0 ≤ c) (c1 : c < 2) (d0 : 0 ≤ d) (d1 : d < 2) :
    joinV a b c d = a + b * 4294967296 + c * 4611686018427387904 + d * 9223372036854775808 := by
  have e1 : bits .or .u64 0 d = d := by
    obtain ⟨D, rfl⟩ := Int.eq_ofNat_of_zero_le d0
    have := u64_or_nat 0 D (by omega) (by omega)
    simpa using this
  have e2 := or_add d c 1 d0 c0 (by omega) (by omega)
  have e3 := or_add (d * 2 + c) b 30 (by omega) b0 (by omega) (by omega)
  have e4 := or_add ((d * 2 + c) * 1073741824 + b) a 32 (by omega) a0 (by omega) (by omega)
  rw [show ((2 : Int) ^ 1) = 2 from rfl] at e2
  rw [show ((2 : Int) ^ 30) = 1073741824 from rfl] at e3
  rw [show ((2 : Int) ^ 32) = 4294967296 from rfl] at e4
  unfold joinV
  rw [e1, e2, e3, e4]; omega
theorem part1 (xs : Array Value) (n : Nat) (v : Value) (h : xs[n]? = some v) (w : World) : Sem.run Tryz.prog (part 25 xs n) w = .ok v w := by
  have ha : ∀ w, Sem.run Tryz.prog (isAgg 25) w = .ok false w := fun _ => by kernel_rfl
  unfold part
  simp [Sem.run_bind, ha, h]
theorem eq_parts (a0 a1 a2 a3 b0 b1 b2 b3 : Int) (w : World) :
    Sem.run Tryz.prog (Op.equalIn 10000 147 (.agg #[.int .u64 a0, .int .u64 a1, .int .u64 a2, .int .u64 a3]) (.agg #[.int .u64 b0, .int .u64 b1, .int .u64 b2, .int .u64 b3])) w = .ok (a0 == b0 && a1 == b1 && a2 == b2 && a3 == b3) w := by
  have hs : ∀ w, Sem.run Tryz.prog (sizeOf 25) w = .ok 1 w := fun _ => by kernel_rfl
  have he := fun (a b : Int) w => run_equalIn_int (P := Tryz.prog) w 9998 25 .u64 .u64 a b Tryz.underlying25
  have ha0 : ∀ w, Sem.run Tryz.prog (part 25 #[Value.int IntKind.u64 a0, Value.int IntKind.u64 a1, Value.int IntKind.u64 a2, Value.int IntKind.u64 a3] 0) w = .ok (.int .u64 a0) w := fun w => part1 _ 0 _ rfl w
  have ha1 : ∀ w, Sem.run Tryz.prog (part 25 #[Value.int IntKind.u64 a0, Value.int IntKind.u64 a1, Value.int IntKind.u64 a2, Value.int IntKind.u64 a3] 1) w = .ok (.int .u64 a1) w := fun w => part1 _ 1 _ rfl w
  have ha2 : ∀ w, Sem.run Tryz.prog (part 25 #[Value.int IntKind.u64 a0, Value.int IntKind.u64 a1, Value.int IntKind.u64 a2, Value.int IntKind.u64 a3] 2) w = .ok (.int .u64 a2) w := fun w => part1 _ 2 _ rfl w
  have ha3 : ∀ w, Sem.run Tryz.prog (part 25 #[Value.int IntKind.u64 a0, Value.int IntKind.u64 a1, Value.int IntKind.u64 a2, Value.int IntKind.u64 a3] 3) w = .ok (.int .u64 a3) w := fun w => part1 _ 3 _ rfl w
  have hb0 : ∀ w, Sem.run Tryz.prog (part 25 #[Value.int IntKind.u64 b0, Value.int IntKind.u64 b1, Value.int IntKind.u64 b2, Value.int IntKind.u64 b3] 0) w = .ok (.int .u64 b0) w := fun w => part1 _ 0 _ rfl w
  have hb1 : ∀ w, Sem.run Tryz.prog (part 25 #[Value.int IntKind.u64 b0, Value.int IntKind.u64 b1, Value.int IntKind.u64 b2, Value.int IntKind.u64 b3] 1) w = .ok (.int .u64 b1) w := fun w => part1 _ 1 _ rfl w
  have hb2 : ∀ w, Sem.run Tryz.prog (part 25 #[Value.int IntKind.u64 b0, Value.int IntKind.u64 b1, Value.int IntKind.u64 b2, Value.int IntKind.u64 b3] 2) w = .ok (.int .u64 b2) w := fun w => part1 _ 2 _ rfl w
  have hb3 : ∀ w, Sem.run Tryz.prog (part 25 #[Value.int IntKind.u64 b0, Value.int IntKind.u64 b1, Value.int IntKind.u64 b2, Value.int IntKind.u64 b3] 3) w = .ok (.int .u64 b3) w := fun w => part1 _ 3 _ rfl w
  rw [show (10000 : Nat) = 9999 + 1 from rfl, Op.equalIn]
  simp only [Sem.run_bind, run_underlying Tryz.underlying147, Result.andThen_ok, hs, Nat.mul_one]
  cases e0 : (a0 == b0) <;> cases e1 : (a1 == b1) <;> cases e2 : (a2 == b2) <;> cases e3 : (a3 == b3) <;>
    simp [Std.Legacy.Range.forIn_eq_forIn_range', Std.Legacy.Range.size, List.range', Sem.run_bind, ha0, ha1, ha2, ha3, hb0, hb1, hb2, hb3, he, e0, e1, e2, e3]
end Go.Proofs.YtgafmklfpiipcaaGreatDoor
