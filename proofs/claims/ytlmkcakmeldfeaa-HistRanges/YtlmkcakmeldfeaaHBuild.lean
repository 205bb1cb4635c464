/-
  Literals of one, two and three events.
-/
import Derived.Test.YtlmkcakmeldfeaaHRanges
import Derived.Test.YtlmkcakmeldfeaaHLegal2
namespace Go.Proofs.Ytlmkcakmeldfeaa.Q
set_option maxRecDepth 100000
open Go.RowKit
open Go.Deep
theorem wpList_val {ops : Array Oper} {rest : List Oper} {op : Oper} {a : Act} {w w' : World} {Q : Exit → Act → World → Prop} (hw : Region.wanted op (yielded ops a.tmps) = true) (v : Value) (hrun : (execOp a.eval op).run Try.prog w = .ok (.value v) w') (h : wpList Try.prog ops Q rest (a.put op.dst v) w') : wpList Try.prog ops Q (op :: rest) a w := by
  refine wpList_step fun K hK => ?_
  rw [if_pos hw]
  unfold Oper.wp
  rw [hrun]
  exact hK _ _ h
theorem zero_ev (w : World) : (zeroValue 53).run Try.prog w = .ok (.agg (evA evZ)) w := by
  have : (Try.prog.info? 53).map (·.zero) = some (some (.agg (evA evZ))) := by kernel_rfl
  unfold zeroValue typeInfo
  cases hq : Try.prog.info? 53 with
  | none => rw [hq] at this; cases this
  | some i => rw [hq] at this; simp at this; simp [Sem.run_bind, hq, this]
theorem size_ev (w : World) : (sizeOf 53).run Try.prog w = .ok 14 w := by
  have := isEv_hist.1
  unfold sizeOf typeInfo
  cases hq : Try.prog.info? 53 with
  | none => rw [hq] at this; cases this
  | some i => rw [hq] at this; simp at this; simp [Sem.run_bind, hq, this]
theorem fill_build1 (e1 : Ev) : Instr.fill (fun i => some (i * 14, 14)) (Array.map (fun x => (Value.agg (evA evZ)).cells[x % (Value.agg (evA evZ)).cells.size]!) (Array.range (1 * 14))) [(0, .agg (evA e1))] = some ([e1].flatMap evL).toArray := by kernel_rfl
theorem run_build1 (e1 : Ev) (w : World) : (Instr.buildSlice 27 1 #[(0, .agg (evA e1))]).run Try.prog w = .ok (.slice (some ⟨w.heap.size, 0, none⟩) 1 1) (w.alloc (.cells ([e1].flatMap evL).toArray 53)) := by
  unfold Instr.buildSlice
  rw [Sem.run_bind, run_underlying Try.underlying27 w]
  simp only [Result.andThen_ok]
  rw [Sem.run_bind, size_ev]
  simp only [Result.andThen_ok]
  rw [if_neg (by decide), if_neg (by decide), Sem.run_bind, zero_ev]
  simp only [Result.andThen_ok, Sem.run_bind, Sem.run_pure]
  rw [fill_build1]
  rfl
theorem wpList_build1 {ops : Array Oper} {rest : List Oper} {op : Oper} {a : Act} {w : World} {Q : Exit → Act → World → Prop} (hw : Region.wanted op (yielded ops a.tmps) = true) (x1 : Operand) (ho : op.op = .buildSlice 27 1 #[(0, x1)]) (e1 : Ev) (h1 : a.eval x1 = .agg (evA e1))
    (h : wpList Try.prog ops Q rest (a.put op.dst (.slice (some ⟨w.heap.size, 0, none⟩) 1 1)) (w.alloc (.cells ([e1].flatMap evL).toArray 53))) : wpList Try.prog ops Q (op :: rest) a w := by
  refine wpList_val hw _ ?_ h
  unfold execOp
  simp [ho, h1, run_build1, Result.andThen]
theorem fill_build2 (e1 e2 : Ev) : Instr.fill (fun i => some (i * 14, 14)) (Array.map (fun x => (Value.agg (evA evZ)).cells[x % (Value.agg (evA evZ)).cells.size]!) (Array.range (2 * 14))) [(0, .agg (evA e1)), (1, .agg (evA e2))] = some ([e1, e2].flatMap evL).toArray := by kernel_rfl
theorem run_build2 (e1 e2 : Ev) (w : World) : (Instr.buildSlice 27 2 #[(0, .agg (evA e1)), (1, .agg (evA e2))]).run Try.prog w = .ok (.slice (some ⟨w.heap.size, 0, none⟩) 2 2) (w.alloc (.cells ([e1, e2].flatMap evL).toArray 53)) := by
  unfold Instr.buildSlice
  rw [Sem.run_bind, run_underlying Try.underlying27 w]
  simp only [Result.andThen_ok]
  rw [Sem.run_bind, size_ev]
  simp only [Result.andThen_ok]
  rw [if_neg (by decide), if_neg (by decide), Sem.run_bind, zero_ev]
  simp only [Result.andThen_ok, Sem.run_bind, Sem.run_pure]
  rw [fill_build2]
  rfl
theorem wpList_build2 {ops : Array Oper} {rest : List Oper} {op : Oper} {a : Act} {w : World} {Q : Exit → Act → World → Prop} (hw : Region.wanted op (yielded ops a.tmps) = true) (x1 x2 : Operand) (ho : op.op = .buildSlice 27 2 #[(0, x1), (1, x2)]) (e1 e2 : Ev) (h1 : a.eval x1 = .agg (evA e1)) (h2 : a.eval x2 = .agg (evA e2))
    (h : wpList Try.prog ops Q rest (a.put op.dst (.slice (some ⟨w.heap.size, 0, none⟩) 2 2)) (w.alloc (.cells ([e1, e2].flatMap evL).toArray 53))) : wpList Try.prog ops Q (op :: rest) a w := by
  refine wpList_val hw _ ?_ h
  unfold execOp
  simp [ho, h1, h2, run_build2, Result.andThen]
theorem fill_build3 (e1 e2 e3 : Ev) : Instr.fill (fun i => some (i * 14, 14)) (Array.map (fun x => (Value.agg (evA evZ)).cells[x % (Value.agg (evA evZ)).cells.size]!) (Array.range (3 * 14))) [(0, .agg (evA e1)), (1, .agg (evA e2)), (2, .agg (evA e3))] = some ([e1, e2, e3].flatMap evL).toArray := by kernel_rfl
theorem run_build3 (e1 e2 e3 : Ev) (w : World) : (Instr.buildSlice 27 3 #[(0, .agg (evA e1)), (1, .agg (evA e2)), (2, .agg (evA e3))]).run Try.prog w = .ok (.slice (some ⟨w.heap.size, 0, none⟩) 3 3) (w.alloc (.cells ([e1, e2, e3].flatMap evL).toArray 53)) := by
  unfold Instr.buildSlice
  rw [Sem.run_bind, run_underlying Try.underlying27 w]
  simp only [Result.andThen_ok]
  rw [Sem.run_bind, size_ev]
  simp only [Result.andThen_ok]
  rw [if_neg (by decide), if_neg (by decide), Sem.run_bind, zero_ev]
  simp only [Result.andThen_ok, Sem.run_bind, Sem.run_pure]
  rw [fill_build3]
  rfl
theorem wpList_build3 {ops : Array Oper} {rest : List Oper} {op : Oper} {a : Act} {w : World} {Q : Exit → Act → World → Prop} (hw : Region.wanted op (yielded ops a.tmps) = true) (x1 x2 x3 : Operand) (ho : op.op = .buildSlice 27 3 #[(0, x1), (1, x2), (2, x3)]) (e1 e2 e3 : Ev) (h1 : a.eval x1 = .agg (evA e1)) (h2 : a.eval x2 = .agg (evA e2)) (h3 : a.eval x3 = .agg (evA e3))
    (h : wpList Try.prog ops Q rest (a.put op.dst (.slice (some ⟨w.heap.size, 0, none⟩) 3 3)) (w.alloc (.cells ([e1, e2, e3].flatMap evL).toArray 53))) : wpList Try.prog ops Q (op :: rest) a w := by
  refine wpList_val hw _ ?_ h
  unfold execOp
  simp [ho, h1, h2, h3, run_build3, Result.andThen]
/-- Events in a block of their own. -/
theorem evs_blk {w : World} {g : Nat} {T : TypeId} {es : List Ev} (h : w.heap[g]? = some (.cells (es.flatMap evL).toArray T (0, 0))) : SlV w (some ⟨g, 0, none⟩) es := fun _ => ⟨g, 0, rfl, lt_of_blk h, fun i hi j v hv => by
  rw [Nat.zero_add]
  refine cell_of_blk h ?_
  rw [List.getElem?_toArray]
  exact fm_get evL_len es i hi j v hv⟩
end Go.Proofs.Ytlmkcakmeldfeaa.Q
