/-
  Structs by value as whole rows: a block's cells are one array; it is loaded and stored in one step, and given back in pairs.
-/
import Derived.Test.YtgafmklfpiipcaaGreatDoorOwn
import Derived.Deep.RegionHeld3
import Derived.Laws.Tables
import Derived.Laws.Rows
namespace Go.Proofs.YtgafmklfpiipcaaGreatDoor
open Go.RowKit (Grown Hid Below)
open Go.Deep
set_option maxRecDepth 100000
theorem hidOf {p : Prop} (h : p) : Hid p := h
/-- A block that holds these cells. -/
def RW (T : TypeId) (w : World) (b : Nat) (A : Array Value) : Prop := w.heap[b]? = some (.cells A T (0, 0))
/-- A type of structs of so many cells. -/
def IsT (T : TypeId) (n : Nat) : Prop := (Tryz.prog.info? T).map (·.size) = some n ∧ ∃ fs, Tryz.prog.underlying T = some (.struct fs)
theorem RW.lt {T : TypeId} {w : World} {b : Nat} {A : Array Value} (h : RW T w b A) : b < w.heap.size := lt_of_blk h
theorem RW.new (T : TypeId) (w : World) (A : Array Value) : RW T (w.alloc (.cells A T)) w.heap.size A := blk_alloc_new _ _
theorem RW.kept {T : TypeId} {l : List Nat} {w w' : World} {b : Nat} {A : Array Value} (h : RW T w b A) (k : Kept l w w') (hn : b ∉ l) : RW T w' b A := k.blk h hn
theorem RW.up {T : TypeId} {w : World} {b : Nat} {A : Array Value} (h : RW T w b A) (o : Obj) : RW T (w.alloc o) b A := h.kept ((Kept.refl [] w).alloc o) (by simp)
theorem RW.drew {T : TypeId} {w : World} {b : Nat} {A : Array Value} (h : RW T w b A) : RW T w.drew b A := h
theorem RW.set {T : TypeId} {w : World} {b : Nat} {A : Array Value} (h : RW T w b A) (i : Nat) (v : Value) : RW T (w.setCell ⟨b, i, none⟩ v) b (A.setIfInBounds i v) := blk_set h i v
theorem RW.row {T : TypeId} {w : World} {b : Nat} {A : Array Value} (h : RW T w b A) (B : Array Value) : RW T (w.setRow b B) b B := setRow_heap w b A B T (0, 0) h
theorem RW.rowOther {T : TypeId} {w : World} {b c : Nat} {A : Array Value} (h : RW T w b A) (B : Array Value) (hn : ¬ b = c) : RW T (w.setRow c B) b A := (setRow_other w c b B hn).trans h
theorem Kept.setRow {l : List Nat} {a w : World} (h : Kept l a w) {b : Nat} (hb : b ∈ l ∨ a.heap.size ≤ b) (A : Array Value) : Kept l a (w.setRow b A) :=
  ⟨h.os, h.tape, h.output, by rw [setRow_size]; exact h.size, fun k hk hn => by
    rw [setRow_other _ _ _ _ (fun e => by subst e; rcases hb with hb | hb; exact hn hb; omega)]; exact h.block k hk hn⟩
theorem wpList_load_rw {ops : Array Oper} {rest : List Oper} {o : Oper} {a : Act} {w : World} {Q : Exit → Act → World → Prop} (T : TypeId) {n : Nat} (hT : IsT T n) (hgd : o.guard = none) (x : Operand) (ho : o.op = .load T x)
    (b : Nat) (hx : a.eval x = .pointer (some ⟨b, 0, none⟩)) (A : Array Value) (hA : A.size = n) (hb : RW T w b A) (h : wpList Tryz.prog ops Q rest (a.put o.dst (.agg A)) w) : wpList Tryz.prog ops Q (o :: rest) a w := by
  obtain ⟨fs, hu⟩ := hT.2
  exact wpList_load_row hgd T x ho b hx T A (0, 0) _ hb hu rfl (by rw [hT.1, hA]) h
theorem wpList_store_rw {ops : Array Oper} {rest : List Oper} {o : Oper} {a : Act} {w : World} {Q : Exit → Act → World → Prop} (T : TypeId) {n : Nat} (hT : IsT T n) (hgd : o.guard = none) (x y : Operand) (ho : o.op = .store T x y)
    (b : Nat) (A : Array Value) (hx : a.eval x = .pointer (some ⟨b, 0, none⟩)) (hy : a.eval y = .agg A) (hA : A.size = n) (h1 : A.all (·.oneCell') = true) (old : Array Value) (hb : RW T w b old) (ho2 : old.size = n)
    (h : wpList Tryz.prog ops Q rest (a.put o.dst undef) (w.setRow b A)) : wpList Tryz.prog ops Q (o :: rest) a w :=
  wpList_store_row hgd T x y ho b A hx hy T old hb (by rw [hT.1, hA]) (by rw [ho2, hA]) h1 h
theorem yieldsIf_load_rw {ops : Array Oper} {S : World → Prop} {op : Oper} {a : Act} (hw : Region.wanted op (yielded ops a.tmps) = true) (T : TypeId) {n : Nat} (hT : IsT T n) (x : Operand) (ho : op.op = .load T x)
    (b : Nat) (hx : a.eval x = .pointer (some ⟨b, 0, none⟩)) (A : Array Value) (hA : A.size = n) (hS : ∀ w, S w → RW T w b A) : YieldsIf Tryz.prog ops S op (.agg A) a :=
  .inl ⟨hw, fun w hw' => by
    obtain ⟨fs, hu⟩ := hT.2
    unfold execOp
    simp only [ho, hx, Instr.loadAt, Instr.sureAddr, Sem.run_bind, Sem.run_pure, Result.andThen_ok, run_loadVar_row w b T T A (0, 0) _ (hS w hw') hu rfl (by rw [hT.1, hA])]⟩
/-- 'return x, y': two structs are given back. -/
def ret2 (d1 d2 x1 x2 y1 y2 : Nat) (p1 p2 p3 p4 : String) (T1 T2 : Nat) : Array Oper := #[{ dst := some d1, op := .load T1 (.tmp x1), type := T1, pos := p1, after := #[], guard := none },
      { dst := some d2, op := .load T2 (.tmp x2), type := T2, pos := p2, after := #[{ on := 2, ground := .gcOnly .lateStores }], guard := none },
      { dst := none, op := .store T1 (.tmp y1) (.tmp d1), type := 0, pos := p3, after := #[{ on := 0, ground := .data }, { on := 0, ground := .phase }, { on := 1, ground := .textOnly .lateStores }], guard := none },
      { dst := none, op := .store T2 (.tmp y2) (.tmp d2), type := 0, pos := p4, after := #[{ on := 1, ground := .data }, { on := 2, ground := .chain }, { on := 0, ground := .phase }, { on := 1, ground := .phase }, { on := 2, ground := .phase }], guard := none }]
theorem wp_ret2 {id d1 d2 x1 x2 y1 y2 : Nat} {p1 p2 p3 p4 : String} {T1 T2 n1 n2 : Nat} {Q : Exit → Act → World → Prop} {a : Act} {w : World} (h1 : IsT T1 n1) (h2 : IsT T2 n2)
    (f0 : Region.free .any (ret2 d1 d2 x1 x2 y1 y2 p1 p2 p3 p4 T1 T2) #[false, false, false, false] 0 = true) (f1 : Region.free .any (ret2 d1 d2 x1 x2 y1 y2 p1 p2 p3 p4 T1 T2) #[true, false, false, false] 1 = true)
    (hQ : ∀ c a w v (d : Nat), Q (.panic c) (Act.put a (some d) v) w → Q (.panic c) a w)
    (b1 b2 c1 c2 : Nat) (A B O1 O2 : Array Value) (hA : A.size = n1) (hB : B.size = n2) (oA : A.all (·.oneCell') = true) (oB : B.all (·.oneCell') = true) (hO1 : O1.size = n1) (hO2 : O2.size = n2)
    (r1 : RW T1 w b1 A) (r2 : RW T2 w b2 B) (r3 : RW T1 w c1 O1) (r4 : RW T2 w c2 O2) (e1 : ¬ c2 = c1) (e2 : ¬ b2 = c1) (e3 : ¬ b1 = c1) (e4 : ¬ b1 = c2) (e5 : ¬ b2 = c2)
    (hx1 : a.eval (.tmp x1) = .pointer (some ⟨b1, 0, none⟩)) (hx2 : (a.put (some d1) (.agg A)).eval (.tmp x2) = .pointer (some ⟨b2, 0, none⟩))
    (hy1 : ((a.put (some d1) (.agg A)).put (some d2) (.agg B)).eval (.tmp y1) = .pointer (some ⟨c1, 0, none⟩)) (hv1 : ((a.put (some d1) (.agg A)).put (some d2) (.agg B)).eval (.tmp d1) = .agg A)
    (hy2 : ((a.put (some d1) (.agg A)).put (some d2) (.agg B)).eval (.tmp y2) = .pointer (some ⟨c2, 0, none⟩)) (hv2 : ((a.put (some d1) (.agg A)).put (some d2) (.agg B)).eval (.tmp d2) = .agg B)
    (h : Q .normal ((a.put (some d1) (.agg A)).put (some d2) (.agg B)) ((w.drew.setRow c1 A).setRow c2 B)) :
    (Code.region id (ret2 d1 d2 x1 x2 y1 y2 p1 p2 p3 p4 T1 T2) true).wp Tryz.prog Q a w := by
  refine wp_region_held_drew (S := fun w' => RW T1 w' b1 A ∧ RW T2 w' b2 B ∧ (∃ O, RW T1 w' c1 O ∧ O.size = n1) ∧ (∃ O, RW T2 w' c2 O ∧ O.size = n2)) (by kernel_rfl) ⟨r1, r2, ⟨O1, r3, hO1⟩, ⟨O2, r4, hO2⟩⟩ (fun hS => ?_)
  refine wpAnyH_take (i := 0) (oi := { dst := some d1, op := .load T1 (.tmp x1), type := T1, pos := p1, after := #[], guard := none }) (v := .agg A) rfl (by kernel_rfl) f0 (by kernel_rfl) (fun _ _ _ h => hQ _ _ _ _ _ h) (yieldsIf_load_rw rfl T1 h1 (.tmp x1) rfl b1 hx1 A hA (fun _ h => h.1)) hS ?_
  refine wpAnyH_take (i := 1) (oi := { dst := some d2, op := .load T2 (.tmp x2), type := T2, pos := p2, after := #[{ on := 2, ground := .gcOnly .lateStores }], guard := none }) (v := .agg B) rfl (by kernel_rfl) f1 (by kernel_rfl) (fun _ _ _ h => hQ _ _ _ _ _ h) (yieldsIf_load_rw rfl T2 h2 (.tmp x2) rfl b2 hx2 B hB (fun _ h => h.2.1)) hS ?_
  refine wpAnyH_ready (rs := [2]) (by kernel_rfl) (by simp) ?_
  refine AllReadyH.cons (o := { dst := none, op := .store T1 (.tmp y1) (.tmp d1), type := 0, pos := p3, after := #[{ on := 0, ground := .data }, { on := 0, ground := .phase }, { on := 1, ground := .textOnly .lateStores }], guard := none }) rfl (fun K hK => ?_) AllReadyH.nil
  rw [if_pos (by rfl)]
  refine wp_store_row T1 (.tmp y1) (.tmp d1) rfl c1 A hy1 hv1 T1 O1 r3 (by rw [h1.1, hA]) (by rw [hO1, hA]) oA ?_
  have s2 : RW T2 (w.drew.setRow c1 A) c2 O2 := RW.rowOther (w := w.drew) r4 A e1
  refine hK.out _ _ ⟨RW.rowOther (w := w.drew) r1 A e3, RW.rowOther (w := w.drew) r2 A e2, ⟨A, RW.row (w := w.drew) r3 A, hA⟩, ⟨O2, s2, hO2⟩⟩ (fun hS2 => ?_)
  refine wpAnyH_ready (rs := [3]) (by kernel_rfl) (by simp) ?_
  refine AllReadyH.cons (o := { dst := none, op := .store T2 (.tmp y2) (.tmp d2), type := 0, pos := p4, after := #[{ on := 1, ground := .data }, { on := 2, ground := .chain }, { on := 0, ground := .phase }, { on := 1, ground := .phase }, { on := 2, ground := .phase }], guard := none }) rfl (fun K2 hK2 => ?_) AllReadyH.nil
  rw [if_pos (by rfl)]
  refine wp_store_row T2 (.tmp y2) (.tmp d2) rfl c2 B hy2 hv2 T2 O2 s2 (by rw [h2.1, hB]) (by rw [hO2, hB]) oB ?_
  refine hK2.out _ _ ⟨hS2.1.rowOther B e4, hS2.2.1.rowOther B e5, ⟨A, (RW.row (w := w.drew) r3 A).rowOther B (fun e => e1 e.symm), hA⟩, ⟨B, s2.row B, hB⟩⟩ (fun _ => ?_)
  exact wpAnyH_done (by kernel_rfl) h _
theorem results_rw2 {fn : Func} {p q : Tmp} {T1 T2 n1 n2 : Nat} (h : fn.results = #[.cell p T1, .cell q T2]) (h1 : IsT T1 n1) (h2 : IsT T2 n2) (tmps : Array Value) (w : World) (c1 c2 : Nat) (A B : Array Value) (hA : A.size = n1) (hB : B.size = n2)
    (hp : tmps.getD p undef = .pointer (some ⟨c1, 0, none⟩)) (hq : tmps.getD q undef = .pointer (some ⟨c2, 0, none⟩)) (r1 : RW T1 w c1 A) (r2 : RW T2 w c2 B) :
    (results fn tmps).run Tryz.prog w = .ok (.tuple #[.agg A, .agg B]) w := by
  obtain ⟨f1, u1⟩ := h1.2
  obtain ⟨f2, u2⟩ := h2.2
  have hp' : tmps[p]?.getD undef = .pointer (some ⟨c1, 0, none⟩) := by simpa using hp
  have hq' : tmps[q]?.getD undef = .pointer (some ⟨c2, 0, none⟩) := by simpa using hq
  simp [results, h, hp', hq', asAddr, run_loadVar_row w c1 T1 T1 A (0, 0) _ r1 u1 rfl (by rw [h1.1, hA]), run_loadVar_row w c2 T2 T2 B (0, 0) _ r2 u2 rfl (by rw [h2.1, hB])]
/-- The four blocks with which a function of two structs begins that gives back two. -/
structure R4 (T1 T2 : TypeId) (w W : World) (b : Nat) (A B Z Y : Array Value) : Prop where
  c : RW T1 W b A
  m : RW T2 W (b + 1) B
  c' : RW T1 W (b + 1 + 1) Z
  m' : RW T2 W (b + 1 + 1 + 1) Y
  k : Kept [] w W
  old : w.heap.size ≤ b
theorem R4.start (T1 T2 : TypeId) (w : World) (A B Z Y : Array Value) {b : Nat} (hb : b = w.heap.size) : R4 T1 T2 w ((((w.alloc (.cells A T1)).alloc (.cells B T2)).alloc (.cells Z T1)).alloc (.cells Y T2)) b A B Z Y := by
  subst hb
  refine ⟨((RW.new _ _ _).up _ |>.up _ |>.up _), ?_, ?_, ?_, (((Kept.refl [] w).alloc _).alloc _).alloc _ |>.alloc _, Nat.le_refl _⟩
  · have z := ((RW.new T2 (w.alloc (.cells A T1)) B).up (.cells Z T1)).up (.cells Y T2); rw [nblk_alloc] at z; exact z
  · have z := (RW.new T1 ((w.alloc (.cells A T1)).alloc (.cells B T2)) Z).up (.cells Y T2); rw [nblk_alloc, nblk_alloc] at z; exact z
  · have z := RW.new T2 (((w.alloc (.cells A T1)).alloc (.cells B T2)).alloc (.cells Z T1)) Y; rw [nblk_alloc, nblk_alloc, nblk_alloc] at z; exact z
theorem R4.new {T1 T2 : TypeId} {w W W' : World} {b : Nat} {A B Z Y : Array Value} (h : R4 T1 T2 w W b A B Z Y) (k : Kept [] W W') : R4 T1 T2 w W' b A B Z Y :=
  ⟨h.c.kept k (by simp), h.m.kept k (by simp), h.c'.kept k (by simp), h.m'.kept k (by simp), h.k.trans k, h.old⟩
theorem wp_calls {o : Oper} {a : Act} {w : World} {K : Act → World → Prop} {Q : Exit → Act → World → Prop} (f : FuncId) (args : Array Value) (hrun : (execOp a.eval o).run Tryz.prog w = .ok (.enter f args) w) (R : Value → World → Prop)
    (hc : Calls Tryz.prog f args w fun e w' => ∃ v, e = .returned v ∧ R v w') (h : ∀ v w', R v w' → K (a.put o.dst v) w') : o.wp Tryz.prog a w K Q := by
  unfold Oper.wp
  rw [hrun, Oper.upon_enter]
  refine hc.mono fun e w' hh => ?_
  obtain ⟨v, rfl, hv⟩ := hh
  exact h v w' hv
/-- 'return f(x, n), y': what a function makes of the first struct is given back, and the other one. -/
def ret2c (d1 d2 d3 d4 x1 x2 x3 y1 y2 : Nat) (F ty T1 T2 : Nat) (p1 p2 p3 p4 p5 p6 : String) : Array Oper := #[{ dst := some d1, op := .load T1 (.tmp x1), type := T1, pos := p1, after := #[], guard := none }, { dst := some d2, op := .move (.tmp x3), type := ty, pos := p2, after := #[], guard := none }, { dst := some d3, op := .call { callee := .value (.func F), args := #[.tmp d1, .tmp d2], argTypes := #[T1, ty] }, type := T1, pos := p3, after := #[{ on := 0, ground := .data }, { on := 1, ground := .data }], guard := none }, { dst := some d4, op := .load T2 (.tmp x2), type := T2, pos := p4, after := #[{ on := 4, ground := .gcOnly .lateStores }], guard := none }, { dst := none, op := .store T1 (.tmp y1) (.tmp d3), type := 0, pos := p5, after := #[{ on := 2, ground := .data }, { on := 2, ground := .chain }, { on := 0, ground := .phase }, { on := 1, ground := .phase }, { on := 2, ground := .phase }, { on := 3, ground := .textOnly .lateStores }], guard := none }, { dst := none, op := .store T2 (.tmp y2) (.tmp d4), type := 0, pos := p6, after := #[{ on := 3, ground := .data }, { on := 4, ground := .chain }, { on := 0, ground := .phase }, { on := 1, ground := .phase }, { on := 2, ground := .phase }, { on := 3, ground := .phase }, { on := 4, ground := .phase }], guard := none }]
set_option maxHeartbeats 4000000 in
theorem wp_ret2c {id d1 d2 d3 d4 x1 x2 x3 y1 y2 : Nat} {p1 p2 p3 p4 p5 p6 : String} {F ty T1 T2 n1 n2 : Nat} {Q : Exit → Act → World → Prop} {a : Act} {w : World} (h1 : IsT T1 n1) (h2 : IsT T2 n2)
    (f0 : Region.free .any (ret2c d1 d2 d3 d4 x1 x2 x3 y1 y2 F ty T1 T2 p1 p2 p3 p4 p5 p6) #[false, false, false, false, false, false] 0 = true) (f1 : Region.free .any (ret2c d1 d2 d3 d4 x1 x2 x3 y1 y2 F ty T1 T2 p1 p2 p3 p4 p5 p6) #[true, false, false, false, false, false] 1 = true) (f3 : Region.free .any (ret2c d1 d2 d3 d4 x1 x2 x3 y1 y2 F ty T1 T2 p1 p2 p3 p4 p5 p6) #[true, true, false, false, false, false] 3 = true)
    (hQ : ∀ c a w v (d : Nat), Q (.panic c) (Act.put a (some d) v) w → Q (.panic c) a w)
    (b1 b2 c1 c2 : Nat) (A B D O1 O2 : Array Value) (V : Value) (hA : A.size = n1) (hB : B.size = n2) (hD : D.size = n1) (oD : D.all (·.oneCell') = true) (oB : B.all (·.oneCell') = true) (hO1 : O1.size = n1) (hO2 : O2.size = n2)
    (r1 : RW T1 w b1 A) (r2 : RW T2 w b2 B) (r3 : RW T1 w c1 O1) (r4 : RW T2 w c2 O2) (e1 : ¬ c2 = c1) (e2 : ¬ b2 = c1) (e3 : ¬ b1 = c1) (e4 : ¬ b1 = c2) (e5 : ¬ b2 = c2)
    (hc : ∀ W, Kept [] w W → Calls Tryz.prog F #[.agg A, V] W fun e w' => e = .returned (.agg D) ∧ Kept [] W w')
    (hx1 : a.eval (.tmp x1) = .pointer (some ⟨b1, 0, none⟩)) (hx3 : (a.put (some d1) (.agg A)).eval (.tmp x3) = V) (hx2 : ((a.put (some d1) (.agg A)).put (some d2) V).eval (.tmp x2) = .pointer (some ⟨b2, 0, none⟩))
    (hrun : ∀ W, (execOp (((a.put (some d1) (.agg A)).put (some d2) V).put (some d4) (.agg B)).eval { dst := some d3, op := .call { callee := .value (.func F), args := #[.tmp d1, .tmp d2], argTypes := #[T1, ty] }, type := T1, pos := p3, after := #[{ on := 0, ground := .data }, { on := 1, ground := .data }], guard := none }).run Tryz.prog W = .ok (.enter F #[.agg A, V]) W)
    (hy1 : ((((a.put (some d1) (.agg A)).put (some d2) V).put (some d4) (.agg B)).put (some d3) (.agg D)).eval (.tmp y1) = .pointer (some ⟨c1, 0, none⟩)) (hv1 : ((((a.put (some d1) (.agg A)).put (some d2) V).put (some d4) (.agg B)).put (some d3) (.agg D)).eval (.tmp d3) = .agg D)
    (hy2 : ((((a.put (some d1) (.agg A)).put (some d2) V).put (some d4) (.agg B)).put (some d3) (.agg D)).eval (.tmp y2) = .pointer (some ⟨c2, 0, none⟩)) (hv2 : ((((a.put (some d1) (.agg A)).put (some d2) V).put (some d4) (.agg B)).put (some d3) (.agg D)).eval (.tmp d4) = .agg B)
    (h : ∀ W, Kept [] w W → Q .normal ((((a.put (some d1) (.agg A)).put (some d2) V).put (some d4) (.agg B)).put (some d3) (.agg D)) ((W.setRow c1 D).setRow c2 B)) :
    (Code.region id (ret2c d1 d2 d3 d4 x1 x2 x3 y1 y2 F ty T1 T2 p1 p2 p3 p4 p5 p6) true).wp Tryz.prog Q a w := by
  refine wp_region_held_drew (S := fun w' => RW T1 w' b1 A ∧ RW T2 w' b2 B ∧ (∃ O, RW T1 w' c1 O ∧ O.size = n1) ∧ (∃ O, RW T2 w' c2 O ∧ O.size = n2)) (by kernel_rfl) ⟨r1, r2, ⟨O1, r3, hO1⟩, ⟨O2, r4, hO2⟩⟩ (fun hS => ?_)
  refine wpAnyH_take (i := 0) (oi := { dst := some d1, op := .load T1 (.tmp x1), type := T1, pos := p1, after := #[], guard := none }) (v := .agg A) rfl (by kernel_rfl) f0 (by kernel_rfl) (fun _ _ _ h => hQ _ _ _ _ _ h) (yieldsIf_load_rw rfl T1 h1 (.tmp x1) rfl b1 hx1 A hA (fun _ h => h.1)) hS ?_
  refine wpAnyH_take (i := 1) (oi := { dst := some d2, op := .move (.tmp x3), type := ty, pos := p2, after := #[], guard := none }) (v := V) rfl (by kernel_rfl) f1 (by kernel_rfl) (fun _ _ _ h => hQ _ _ _ _ _ h) (Or.inl ⟨rfl, fun w _ => by show Result.ok (Next.value ((a.put (some d1) (.agg A)).eval (.tmp x3))) w = _; rw [hx3]⟩) hS ?_
  refine wpAnyH_take (i := 3) (oi := { dst := some d4, op := .load T2 (.tmp x2), type := T2, pos := p4, after := #[{ on := 4, ground := .gcOnly .lateStores }], guard := none }) (v := .agg B) rfl (by kernel_rfl) f3 (by kernel_rfl) (fun _ _ _ h => hQ _ _ _ _ _ h) (yieldsIf_load_rw rfl T2 h2 (.tmp x2) rfl b2 hx2 B hB (fun _ h => h.2.1)) hS ?_
  refine wpAnyH_ready (rs := [2]) (by kernel_rfl) (by simp) ?_
  refine AllReadyH.cons (o := { dst := some d3, op := .call { callee := .value (.func F), args := #[.tmp d1, .tmp d2], argTypes := #[T1, ty] }, type := T1, pos := p3, after := #[{ on := 0, ground := .data }, { on := 1, ground := .data }], guard := none }) rfl (fun K hK => ?_) AllReadyH.nil
  rw [if_pos (by rfl)]
  refine wp_calls F #[.agg A, V] (hrun _) (fun v W => v = .agg D ∧ Kept [] w W) ((hc w.drew (Kept.refl [] w).drew).mono fun e w' hh => ⟨_, hh.1, rfl, hh.2.undrew⟩) ?_
  rintro v W ⟨rfl, kW⟩
  have s1 := r1.kept kW (by simp)
  have s2 := r2.kept kW (by simp)
  have s3 := r3.kept kW (by simp)
  have s4 := r4.kept kW (by simp)
  refine hK.out _ _ ⟨s1, s2, ⟨O1, s3, hO1⟩, ⟨O2, s4, hO2⟩⟩ (fun hS0 => ?_)
  refine wpAnyH_ready (rs := [4]) (by kernel_rfl) (by simp) ?_
  refine AllReadyH.cons (o := { dst := none, op := .store T1 (.tmp y1) (.tmp d3), type := 0, pos := p5, after := #[{ on := 2, ground := .data }, { on := 2, ground := .chain }, { on := 0, ground := .phase }, { on := 1, ground := .phase }, { on := 2, ground := .phase }, { on := 3, ground := .textOnly .lateStores }], guard := none }) rfl (fun K hK => ?_) AllReadyH.nil
  rw [if_pos (by rfl)]
  refine wp_store_row T1 (.tmp y1) (.tmp d3) rfl c1 D hy1 hv1 T1 O1 s3 (by rw [h1.1, hD]) (by rw [hO1, hD]) oD ?_
  have s5 : RW T2 (W.setRow c1 D) c2 O2 := s4.rowOther D e1
  refine hK.out _ _ ⟨s1.rowOther D e3, s2.rowOther D e2, ⟨D, s3.row D, hD⟩, ⟨O2, s5, hO2⟩⟩ (fun hS2 => ?_)
  refine wpAnyH_ready (rs := [5]) (by kernel_rfl) (by simp) ?_
  refine AllReadyH.cons (o := { dst := none, op := .store T2 (.tmp y2) (.tmp d4), type := 0, pos := p6, after := #[{ on := 3, ground := .data }, { on := 4, ground := .chain }, { on := 0, ground := .phase }, { on := 1, ground := .phase }, { on := 2, ground := .phase }, { on := 3, ground := .phase }, { on := 4, ground := .phase }], guard := none }) rfl (fun K2 hK2 => ?_) AllReadyH.nil
  rw [if_pos (by rfl)]
  refine wp_store_row T2 (.tmp y2) (.tmp d4) rfl c2 B hy2 hv2 T2 O2 s5 (by rw [h2.1, hB]) (by rw [hO2, hB]) oB ?_
  refine hK2.out _ _ ⟨hS2.1.rowOther B e4, hS2.2.1.rowOther B e5, ⟨D, (s3.row D).rowOther B (fun e => e1 e.symm), hD⟩, ⟨B, s5.row B, hB⟩⟩ (fun _ => ?_)
  exact wpAnyH_done (by kernel_rfl) (h W kW) _
end Go.Proofs.YtgafmklfpiipcaaGreatDoor
