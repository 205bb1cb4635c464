/-
  Two places are compared field by field: those of plan, and the document's own.
-/
import Derived.Test.YtgafmklfpiipcaaGreatDoorMem
namespace Go.Proofs.YtgafmklfpiipcaaGreatDoor
set_option maxRecDepth 100000
open Go.RowKit (Grown Hid Below)
open Go.Deep
theorem part_int (xs : Array Value) (n : Nat) (v : Value) (h : xs[n]? = some v) (w : World) : Sem.run Tryz.prog (part 3 xs n) w = .ok v w := by
  have ha : ∀ w, Sem.run Tryz.prog (isAgg 3) w = .ok false w := fun _ => by kernel_rfl
  unfold part
  simp [Sem.run_bind, ha, h]
theorem fields3 {l : List Field} {x y z : String × TypeId × Nat} (h : l.map (fun f => (f.name, f.type, f.offset)) = [x, y, z]) : ∃ a b c, l = [a, b, c] ∧ (a.name = x.1 ∧ a.type = x.2.1 ∧ a.offset = x.2.2) ∧ (b.name = y.1 ∧ b.type = y.2.1 ∧ b.offset = y.2.2) ∧ (c.name = z.1 ∧ c.type = z.2.1 ∧ c.offset = z.2.2) := by
  match l, h with
  | [a, b, c], h =>
    simp only [List.map_cons, List.map_nil, List.cons.injEq, and_true] at h
    obtain ⟨h1, h2, h3⟩ := h
    subst h1 h2 h3
    exact ⟨a, b, c, rfl, ⟨rfl, rfl, rfl⟩, ⟨rfl, rfl, rfl⟩, ⟨rfl, rfl, rfl⟩⟩
theorem eq_place (a0 a1 a2 b0 b1 b2 : Int) (w : World) :
    Sem.run Tryz.prog (Op.equalIn 10000 164 (.agg #[.int .i64 a0, .int .i64 a1, .int .i64 a2]) (.agg #[.int .i64 b0, .int .i64 b1, .int .i64 b2])) w = .ok (a0 == b0 && a1 == b1 && a2 == b2) w := by
  rw [show (10000 : Nat) = 9999 + 1 from rfl, run_equalIn_struct w 9999 164 _ _ Tryz.underlying164 (by kernel_rfl)]
  have hf : (Tryz.prog.fieldsOf 164).toList.map (fun f => (f.name, f.type, f.offset)) = [("Kind", 3, 0), ("A", 3, 1), ("B", 3, 2)] := by kernel_rfl
  obtain ⟨f0, f1, f2, hl, g0, g1, g2⟩ := fields3 hf
  have he := fun (a b : Int) w => run_equalIn_int (P := Tryz.prog) w 9998 3 .i64 .i64 a b Tryz.underlying3
  have ha0 : ∀ w, Sem.run Tryz.prog (part 3 #[Value.int IntKind.i64 a0, Value.int IntKind.i64 a1, Value.int IntKind.i64 a2] 0) w = .ok (.int .i64 a0) w := fun w => part_int _ 0 _ rfl w
  have ha1 : ∀ w, Sem.run Tryz.prog (part 3 #[Value.int IntKind.i64 a0, Value.int IntKind.i64 a1, Value.int IntKind.i64 a2] 1) w = .ok (.int .i64 a1) w := fun w => part_int _ 1 _ rfl w
  have ha2 : ∀ w, Sem.run Tryz.prog (part 3 #[Value.int IntKind.i64 a0, Value.int IntKind.i64 a1, Value.int IntKind.i64 a2] 2) w = .ok (.int .i64 a2) w := fun w => part_int _ 2 _ rfl w
  have hb0 : ∀ w, Sem.run Tryz.prog (part 3 #[Value.int IntKind.i64 b0, Value.int IntKind.i64 b1, Value.int IntKind.i64 b2] 0) w = .ok (.int .i64 b0) w := fun w => part_int _ 0 _ rfl w
  have hb1 : ∀ w, Sem.run Tryz.prog (part 3 #[Value.int IntKind.i64 b0, Value.int IntKind.i64 b1, Value.int IntKind.i64 b2] 1) w = .ok (.int .i64 b1) w := fun w => part_int _ 1 _ rfl w
  have hb2 : ∀ w, Sem.run Tryz.prog (part 3 #[Value.int IntKind.i64 b0, Value.int IntKind.i64 b1, Value.int IntKind.i64 b2] 2) w = .ok (.int .i64 b2) w := fun w => part_int _ 2 _ rfl w
  rw [hl]
  simp only at g0 g1 g2
  cases e0 : (a0 == b0) <;> cases e1 : (a1 == b1) <;> cases e2 : (a2 == b2) <;>
    simp [Op.eqFields, Sem.run_bind, ha0, ha1, ha2, hb0, hb1, hb2, he, e0, e1, e2, g0, g1, g2]
end Go.Proofs.YtgafmklfpiipcaaGreatDoor
