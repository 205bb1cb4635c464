/-
  Events: fourteen cells each, the last a slice of keys; slices of them; whole events loaded and stored.
-/
import Derived.Test.YtlmkcakmeldfeaaQDoes
import Derived.Test.YtlmkcakmeldfeaaQAlike
import Derived.Deep.MidRow
import Derived.Deep.WholeRow
namespace Go.Proofs.Ytlmkcakmeldfeaa.Q
set_option maxRecDepth 100000
open Go.ChangeShapes Go.WideShapes Go.ChangeAt Go.RowKit
open Go.Deep
/-- An event; where its keys lie, and what they are. -/
structure Ev where
  th : Int
  op : OpQ
  bg : Int
  at_ : Int
  en : Int
  dn : Bool
  fu : Bool
  ha : Bool
  go : Int
  ka : Option Addr
  kc : Nat
  ks : List Int
def evZ : Ev := ⟨0, ⟨0, 0, 0, 0, 0⟩, 0, 0, 0, false, false, false, 0, none, 0, []⟩
def evL (e : Ev) : List Value := [.int .i64 e.th, .int .i64 e.op.d, .int .u64 e.op.k, .int .u64 e.op.v, .int .i64 e.op.n, .int .i64 e.op.t, .int .i64 e.bg, .int .i64 e.at_, .int .i64 e.en, .bool e.dn, .bool e.fu, .bool e.ha, .int .u64 e.go, .slice e.ka e.ks.length e.kc]
def evA (e : Ev) : Array Value := (evL e).toArray
theorem evA_size (e : Ev) : (evA e).size = 14 := rfl
theorem evL_len (e : Ev) : (evL e).length = 14 := rfl
theorem evA_one (e : Ev) : (evA e).all (·.oneCell') = true := by simp [evA, evL, Value.oneCell']
theorem evL_one (e : Ev) : ∀ u ∈ evL e, u.oneCell' = true := by
  intro u hu
  have := (Array.all_eq_true_iff_forall_mem.1 (evA_one e)) u (by simpa [evA] using hu)
  exact this
/-- The event in its own block. -/
def EB (T : TypeId) (w : World) (b : Nat) (e : Ev) : Prop := w.heap[b]? = some (.cells (evA e) T (0, 0))
theorem EB.new (T : TypeId) (w : World) (e : Ev) : EB T (w.alloc (.cells (evA e) T)) w.heap.size e := blk_alloc_new _ _
theorem EB.kept {T : TypeId} {l : List Nat} {w w' : World} {b : Nat} {e : Ev} (h : EB T w b e) (k : Kept l w w') (hn : b ∉ l) : EB T w' b e := k.blk h hn
theorem EB.c {T : TypeId} {w : World} {b : Nat} {e : Ev} (h : EB T w b e) {i : Nat} {v : Value} (hv : (evA e)[i]? = some v) : w.cell? ⟨b, i, none⟩ = some v := cell_of_blk h hv
theorem EB.free {T : TypeId} {w : World} {b : Nat} {e : Ev} (h : EB T w b e) (i : Nat) : w.frozen? ⟨b, i, none⟩ = false := free_of_blk h i
theorem EB.lt {T : TypeId} {w : World} {b : Nat} {e : Ev} (h : EB T w b e) : b < w.heap.size := lt_of_blk h
theorem EB.c0 {T : TypeId} {w : World} {b : Nat} {e : Ev} (h : EB T w b e) : w.cell? ⟨b, 0, none⟩ = some (.int .i64 e.th) := h.c rfl
theorem rg0 {w : World} {b o : Nat} {e : Ev} (h : w.rangeAt b o (evL e)) : w.cell? ⟨b, o + 0, none⟩ = some (.int .i64 e.th) := h 0 _ rfl
theorem EB.c1 {T : TypeId} {w : World} {b : Nat} {e : Ev} (h : EB T w b e) : w.cell? ⟨b, 1, none⟩ = some (.int .i64 e.op.d) := h.c rfl
theorem rg1 {w : World} {b o : Nat} {e : Ev} (h : w.rangeAt b o (evL e)) : w.cell? ⟨b, o + 1, none⟩ = some (.int .i64 e.op.d) := h 1 _ rfl
theorem EB.c2 {T : TypeId} {w : World} {b : Nat} {e : Ev} (h : EB T w b e) : w.cell? ⟨b, 2, none⟩ = some (.int .u64 e.op.k) := h.c rfl
theorem rg2 {w : World} {b o : Nat} {e : Ev} (h : w.rangeAt b o (evL e)) : w.cell? ⟨b, o + 2, none⟩ = some (.int .u64 e.op.k) := h 2 _ rfl
theorem EB.c3 {T : TypeId} {w : World} {b : Nat} {e : Ev} (h : EB T w b e) : w.cell? ⟨b, 3, none⟩ = some (.int .u64 e.op.v) := h.c rfl
theorem rg3 {w : World} {b o : Nat} {e : Ev} (h : w.rangeAt b o (evL e)) : w.cell? ⟨b, o + 3, none⟩ = some (.int .u64 e.op.v) := h 3 _ rfl
theorem EB.c4 {T : TypeId} {w : World} {b : Nat} {e : Ev} (h : EB T w b e) : w.cell? ⟨b, 4, none⟩ = some (.int .i64 e.op.n) := h.c rfl
theorem rg4 {w : World} {b o : Nat} {e : Ev} (h : w.rangeAt b o (evL e)) : w.cell? ⟨b, o + 4, none⟩ = some (.int .i64 e.op.n) := h 4 _ rfl
theorem EB.c5 {T : TypeId} {w : World} {b : Nat} {e : Ev} (h : EB T w b e) : w.cell? ⟨b, 5, none⟩ = some (.int .i64 e.op.t) := h.c rfl
theorem rg5 {w : World} {b o : Nat} {e : Ev} (h : w.rangeAt b o (evL e)) : w.cell? ⟨b, o + 5, none⟩ = some (.int .i64 e.op.t) := h 5 _ rfl
theorem EB.c6 {T : TypeId} {w : World} {b : Nat} {e : Ev} (h : EB T w b e) : w.cell? ⟨b, 6, none⟩ = some (.int .i64 e.bg) := h.c rfl
theorem rg6 {w : World} {b o : Nat} {e : Ev} (h : w.rangeAt b o (evL e)) : w.cell? ⟨b, o + 6, none⟩ = some (.int .i64 e.bg) := h 6 _ rfl
theorem EB.c7 {T : TypeId} {w : World} {b : Nat} {e : Ev} (h : EB T w b e) : w.cell? ⟨b, 7, none⟩ = some (.int .i64 e.at_) := h.c rfl
theorem rg7 {w : World} {b o : Nat} {e : Ev} (h : w.rangeAt b o (evL e)) : w.cell? ⟨b, o + 7, none⟩ = some (.int .i64 e.at_) := h 7 _ rfl
theorem EB.c8 {T : TypeId} {w : World} {b : Nat} {e : Ev} (h : EB T w b e) : w.cell? ⟨b, 8, none⟩ = some (.int .i64 e.en) := h.c rfl
theorem rg8 {w : World} {b o : Nat} {e : Ev} (h : w.rangeAt b o (evL e)) : w.cell? ⟨b, o + 8, none⟩ = some (.int .i64 e.en) := h 8 _ rfl
theorem EB.c9 {T : TypeId} {w : World} {b : Nat} {e : Ev} (h : EB T w b e) : w.cell? ⟨b, 9, none⟩ = some (.bool e.dn) := h.c rfl
theorem rg9 {w : World} {b o : Nat} {e : Ev} (h : w.rangeAt b o (evL e)) : w.cell? ⟨b, o + 9, none⟩ = some (.bool e.dn) := h 9 _ rfl
theorem EB.c10 {T : TypeId} {w : World} {b : Nat} {e : Ev} (h : EB T w b e) : w.cell? ⟨b, 10, none⟩ = some (.bool e.fu) := h.c rfl
theorem rg10 {w : World} {b o : Nat} {e : Ev} (h : w.rangeAt b o (evL e)) : w.cell? ⟨b, o + 10, none⟩ = some (.bool e.fu) := h 10 _ rfl
theorem EB.c11 {T : TypeId} {w : World} {b : Nat} {e : Ev} (h : EB T w b e) : w.cell? ⟨b, 11, none⟩ = some (.bool e.ha) := h.c rfl
theorem rg11 {w : World} {b o : Nat} {e : Ev} (h : w.rangeAt b o (evL e)) : w.cell? ⟨b, o + 11, none⟩ = some (.bool e.ha) := h 11 _ rfl
theorem EB.c12 {T : TypeId} {w : World} {b : Nat} {e : Ev} (h : EB T w b e) : w.cell? ⟨b, 12, none⟩ = some (.int .u64 e.go) := h.c rfl
theorem rg12 {w : World} {b o : Nat} {e : Ev} (h : w.rangeAt b o (evL e)) : w.cell? ⟨b, o + 12, none⟩ = some (.int .u64 e.go) := h 12 _ rfl
theorem EB.c13 {T : TypeId} {w : World} {b : Nat} {e : Ev} (h : EB T w b e) : w.cell? ⟨b, 13, none⟩ = some (.slice e.ka e.ks.length e.kc) := h.c rfl
theorem rg13 {w : World} {b o : Nat} {e : Ev} (h : w.rangeAt b o (evL e)) : w.cell? ⟨b, o + 13, none⟩ = some (.slice e.ka e.ks.length e.kc) := h 13 _ rfl
/-- A type of events. -/
def IsEv (T : TypeId) : Prop := (Try.prog.info? T).map (·.size) = some 14 ∧ ∃ fs, Try.prog.underlying T = some (.struct fs)
theorem isEv_hist : IsEv 53 := ⟨by kernel_rfl, _, Try.underlying53⟩
theorem isEv_ref : IsEv 48 := ⟨by kernel_rfl, _, Try.underlying48⟩
/-- The load of a whole event out of its own block. -/
theorem EB.load {T : TypeId} {w : World} {b : Nat} {e : Ev} (h : EB T w b e) (hT : IsEv T) : (Instr.loadAt T (.pointer (some ⟨b, 0, none⟩))).run Try.prog w = .ok (.agg (evA e)) w := by
  obtain ⟨fs, hu⟩ := hT.2
  simp only [Instr.loadAt, Instr.sureAddr, Sem.run_bind, Sem.run_pure, Result.andThen_ok]
  exact run_loadVar_row w b T T (evA e) (0, 0) _ h hu rfl (by rw [hT.1, evA_size])
/-- Events in a slice, wherever it lies. -/
abbrev SlV := SlOf 14 evL
theorem SlV.row {w : World} {ao : Option Addr} {es : List Ev} (h : SlV w ao es) {k : Nat} (hk : k < es.length) :
    ∃ b off, ao = some ⟨b, off, none⟩ ∧ b < w.heap.size ∧ w.rangeAt b (off + k * 14) (evL (es.getD k evZ)) := by
  obtain ⟨b, off, rfl, hb, hc⟩ := h (by omega)
  have e : es.getD k evZ = es[k] := by simp [hk]
  rw [e]
  exact ⟨b, off, rfl, hb, fun j v hv => hc k hk j v hv⟩
/-- The load of a whole event out of a slice. -/
theorem load_at {T : TypeId} {w : World} {b o : Nat} {e : Ev} (h : w.rangeAt b o (evL e)) (hT : IsEv T) : (Instr.loadAt T (.pointer (some ⟨b, o, none⟩))).run Try.prog w = .ok (.agg (evA e)) w := by
  obtain ⟨fs, hu⟩ := hT.2
  exact run_loadAt_mid w b o T (evL e) _ h hu rfl (by rw [hT.1, evL_len])
theorem wpList_load_ev {ops : Array Oper} {rest : List Oper} {op : Oper} {a : Act} {w : World} {Q : Exit → Act → World → Prop} (T : TypeId) (hT : IsEv T) (hgd : op.guard = none) (x : Operand) (ho : op.op = .load T x)
    (b o : Nat) (hx : a.eval x = .pointer (some ⟨b, o, none⟩)) (e : Ev) (hc : w.rangeAt b o (evL e)) (h : wpList Try.prog ops Q rest (a.put op.dst (.agg (evA e))) w) : wpList Try.prog ops Q (op :: rest) a w := by
  obtain ⟨fs, hu⟩ := hT.2
  exact wpList_load_mid hgd T x ho b o hx (evL e) _ hc hu rfl (by rw [hT.1, evL_len]) h
theorem EB.range {T : TypeId} {w : World} {b : Nat} {e : Ev} (h : EB T w b e) : w.rangeAt b 0 (evL e) := fun j v hv => by
  rw [Nat.zero_add]; exact h.c (by unfold evA; rw [List.getElem?_toArray]; exact hv)
theorem wpList_load_eb {ops : Array Oper} {rest : List Oper} {op : Oper} {a : Act} {w : World} {Q : Exit → Act → World → Prop} (T : TypeId) (hT : IsEv T) (hgd : op.guard = none) (x : Operand) (ho : op.op = .load T x)
    (b : Nat) (hx : a.eval x = .pointer (some ⟨b, 0, none⟩)) (e : Ev) (hc : EB T w b e) (h : wpList Try.prog ops Q rest (a.put op.dst (.agg (evA e))) w) : wpList Try.prog ops Q (op :: rest) a w :=
  wpList_load_ev T hT hgd x ho b 0 hx e hc.range h
/-- The store of a whole event into a block that has just been made. -/
theorem wpList_store_ev {ops : Array Oper} {rest : List Oper} {op : Oper} {a : Act} {w : World} {Q : Exit → Act → World → Prop} (T : TypeId) (hT : IsEv T) (hgd : op.guard = none) (x y : Operand) (ho : op.op = .store T x y)
    (old : Array Value) (hold : old.size = 14) (hx : a.eval x = .pointer (some ⟨w.heap.size, 0, none⟩)) (e : Ev) (hy : a.eval y = .agg (evA e)) (h : wpList Try.prog ops Q rest (a.put op.dst undef) (w.alloc (.cells (evA e) T))) : wpList Try.prog ops Q (op :: rest) a (w.alloc (.cells old T)) := by
  refine wpList_store_row hgd T x y ho w.heap.size (evA e) hx hy T old (blk_alloc_new _ _) (by rw [hT.1, evA_size]) (by rw [hold, evA_size]) (evA_one e) ?_
  rw [World.setRow_alloc_new]; exact h
end Go.Proofs.Ytlmkcakmeldfeaa.Q
