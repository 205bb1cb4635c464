/-
  The document's build, as a value: a find lies in its midst; what New makes.
  The blocks of the document's step of a build.
  The document's look at a level.
  The document's step of a build: done, own, set.
  The document's step of a build: find.
  The document's step of a build: link.
  The document's step of a build: any.
  Words that somebody else writes: the program's, and the document's.
  Words that somebody else writes ahead of a step: the program's, and the document's.
  A build and the document's, side by side: what holds ahead of each step.
-/
import Derived.Test.YtkjjieklccbmoaaGreatDoorZDoc
import Derived.Test.YtkjjieklccbmoaaGreatDoorZBuild
import Derived.Deep.MidRow
import Derived.Test.YtkjjieklccbmoaaGreatDoorKBase
import Derived.Test.YtkjjieklccbmoaaGreatDoorZLay
import Derived.Deep.Cut
namespace Go.Proofs.YtkjjieklccbmoaaGreatDoor
open Go.RowKit (Grown Hid Below)
open Go.Deep
namespace K
set_option maxRecDepth 100000
/-- A build's cells, round its find's. -/
def rbJ (s : Bm) (A : Array Value) : Array Value := #[.int .u64 s.h, .int .u64 s.k, .int .i64 s.tl, .int .i64 s.lv, .int .i64 s.nx, A.getD 0 undef, A.getD 1 undef, A.getD 2 undef, A.getD 3 undef, A.getD 4 undef, A.getD 5 undef, A.getD 6 undef, A.getD 7 undef, A.getD 8 undef, A.getD 9 undef, A.getD 10 undef, A.getD 11 undef, .int .u64 s.w, .bool s.d]
def rbZ : Array Value := rbJ ⟨0, 0, 0, 0, 0, fm0, 0, false⟩ rfZ
theorem isT_rb : IsT 46 19 := ⟨by kernel_rfl, _, Tryz.underlying46⟩
/-- A build, and where its find's rows lie. -/
def RB (base : Nat) (w : World) (s : Bm) (X : Array Value) : Prop := ∃ A, X = rbJ s A ∧ RF base w s.f A
theorem RB.kept {base : Nat} {l : List Nat} {w w' : World} {s : Bm} {X : Array Value} (h : RB base w s X) (k : Kept l w w') (hl : ∀ x ∈ l, x < base) : RB base w' s X := by
  obtain ⟨A, e, f⟩ := h; exact ⟨A, e, f.kept k hl⟩
theorem RB.new {base : Nat} {w w' : World} {s : Bm} {X : Array Value} (h : RB base w s X) (k : Kept [] w w') : RB base w' s X := h.kept k (by simp)
theorem RB.far1 {base : Nat} {w w' : World} {s : Bm} {X : Array Value} (h : RB base w s X) {T : TypeId} {b : Nat} {A : Array Value} (r : RW T w b A) (hT : 25 ≠ T) (k : Kept [b] w w') : RB base w' s X := by
  obtain ⟨A, e, f⟩ := h; exact ⟨A, e, f.far1 r hT k⟩
theorem RB.size {base : Nat} {w : World} {s : Bm} {X : Array Value} (h : RB base w s X) : X.size = 19 := by obtain ⟨A, e, f⟩ := h; rw [e]; rfl
theorem rf_ex {base : Nat} {w : World} {f : Fm} {A : Array Value} (h : RF base w f A) : ∃ a1 n1 c1 a2 n2 c2 a3 n3 c3, A = rfA f a1 n1 c1 a2 n2 c2 a3 n3 c3 := by
  obtain ⟨a1, c1, a2, c2, a3, c3, e, _⟩ := h; exact ⟨_, _, _, _, _, _, _, _, _, e⟩
theorem RB.one {base : Nat} {w : World} {s : Bm} {X : Array Value} (h : RB base w s X) : X.all (·.oneCell') = true := by
  obtain ⟨A, e, f⟩ := h
  obtain ⟨a1, n1, c1, a2, n2, c2, a3, n3, c3, eA⟩ := rf_ex f
  rw [e, eA]; simp [rbJ, rfA, Value.oneCell']
theorem RB.cells {base : Nat} {w : World} {s : Bm} {X : Array Value} (h : RB base w s X) : X[0]? = some (.int .u64 s.h) ∧ X[1]? = some (.int .u64 s.k) ∧ X[2]? = some (.int .i64 s.tl) ∧ X[3]? = some (.int .i64 s.lv) ∧ X[4]? = some (.int .i64 s.nx) ∧ X[17]? = some (.int .u64 s.w) ∧ X[18]? = some (.bool s.d) := by
  obtain ⟨A, e, f⟩ := h; rw [e]; exact ⟨rfl, rfl, rfl, rfl, rfl, rfl, rfl⟩
theorem RB.setnx {base : Nat} {w : World} {s : Bm} {X : Array Value} (h : RB base w s X) (v : Nat) : RB base w { s with nx := v } (X.setIfInBounds 4 (.int .i64 v)) := by
  obtain ⟨A, e, f⟩ := h; exact ⟨A, by rw [e]; rfl, f⟩
theorem RB.setlv {base : Nat} {w : World} {s : Bm} {X : Array Value} (h : RB base w s X) (v : Int) : RB base w { s with lv := v } (X.setIfInBounds 3 (.int .i64 v)) := by
  obtain ⟨A, e, f⟩ := h; exact ⟨A, by rw [e]; rfl, f⟩
theorem RB.setw {base : Nat} {w : World} {s : Bm} {X : Array Value} (h : RB base w s X) (v : Int) : RB base w { s with w := v } (X.setIfInBounds 17 (.int .u64 v)) := by
  obtain ⟨A, e, f⟩ := h; exact ⟨A, by rw [e]; rfl, f⟩
theorem RB.setd {base : Nat} {w : World} {s : Bm} {X : Array Value} (h : RB base w s X) (v : Bool) : RB base w { s with d := v } (X.setIfInBounds 18 (.bool v)) := by
  obtain ⟨A, e, f⟩ := h; exact ⟨A, by rw [e]; rfl, f⟩
/-- Cells written one behind the other. -/
def setFrom (X : Array Value) : Nat → List Value → Array Value
  | _, [] => X
  | o, v :: r => setFrom (X.setIfInBounds o v) (o + 1) r
theorem RW.cellsFrom {T : TypeId} {b : Nat} : ∀ (vs : List Value) (o : Nat) {w : World} {X : Array Value}, RW T w b X → RW T (w.setCells b o vs) b (setFrom X o vs)
  | [], _, _, _, h => h
  | v :: r, o, _, _, h => RW.cellsFrom r (o + 1) (h.set o v)
theorem kept_cells (b : Nat) : ∀ (vs : List Value) (o : Nat) {w0 w : World}, Kept [b] w0 w → Kept [b] w0 (w.setCells b o vs)
  | [], _, _, _, h => h
  | v :: r, o, _, _, h => kept_cells b r (o + 1) (h.setCell (p := ⟨b, o, none⟩) (Or.inl (by simp)) v)
theorem RB.setf {base : Nat} {w : World} {s : Bm} {X : Array Value} {f' : Fm} {A' : Array Value} (h : RB base w s X) (h' : RF base w f' A') : RB base w { s with f := f' } (setFrom X 5 A'.toList) := by
  obtain ⟨A, e, f⟩ := h
  obtain ⟨a1, n1, c1, a2, n2, c2, a3, n3, c3, eA⟩ := rf_ex f
  obtain ⟨x1, m1, d1, x2, m2, d2, x3, m3, d3, eB⟩ := rf_ex h'
  exact ⟨A', by rw [e, eA, eB]; simp [setFrom, rbJ, rfA], h'⟩
/-- The find in the midst of a block. -/
theorem RB.mid {base : Nat} {w : World} {s : Bm} {X : Array Value} (h : RB base w s X) : ∃ A, RF base w s.f A ∧ A.toList.length = 12 ∧ ∀ (W : World) (b : Nat) (T : TypeId), RW T W b X → W.rangeAt b 5 A.toList ∧ W.there b 5 12 := by
  obtain ⟨A, e, f⟩ := h
  have sz := f.size
  refine ⟨A, f, by simpa using sz, fun W b T r => ⟨fun j v hv => ?_, fun j hj => ?_⟩⟩
  · obtain ⟨a1, n1, c1, a2, n2, c2, a3, n3, c3, eA⟩ := rf_ex f
    have hj : j < 12 := by have := (List.getElem?_eq_some_iff.1 hv).1; simp at this; omega
    refine cell_of_blk r ?_
    rw [e]
    rw [eA] at hv ⊢
    rcases (by omega : j = 0 ∨ j = 1 ∨ j = 2 ∨ j = 3 ∨ j = 4 ∨ j = 5 ∨ j = 6 ∨ j = 7 ∨ j = 8 ∨ j = 9 ∨ j = 10 ∨ j = 11) with q | q | q | q | q | q | q | q | q | q | q | q <;> subst q <;> exact hv
  · have hX : 5 + j < X.size := by rw [e]; show 5 + j < 19; omega
    have z := cell_of_blk r (i := 5 + j) (v := X[5 + j]) (by simp [hX])
    exact ⟨by rw [z]; rfl, free_of_blk r _⟩
theorem RB.start (base : Nat) (w : World) (h k tl : Int) : RB base w (bmS h k tl) (rbJ (bmS h k tl) (rfA (fmS k) none 0 0 none 0 0 none 0 0)) := ⟨_, rfl, RF.anew base w ⟨k, 0, 0, 0, 0, 0, 0, [], [], [], 0, false⟩ 0⟩
set_option maxHeartbeats 2000000 in
theorem rbnew_any (h k tl : Int) (w : World) :
    Calls Tryz.prog 8 #[.int .u64 h, .int .u64 k, .int .i64 tl] w fun e w' => e = .returned (.agg (rbJ (bmS h k tl) (rfA (fmS k) none 0 0 none 0 0 none 0 0))) ∧ Kept [] w w' := by
  have FN : Hid (∀ W, Calls Tryz.prog 27 #[.int .u64 k] W fun e w' => e = .returned (.agg #[.int .u64 k, .int .i64 0, .int .i64 0, .int .u64 9223372036854775808, .int .u64 0, .int .u64 0, .int .u64 0, .slice none 0 0, .slice none 0 0, .slice none 0 0, .int .i64 0, .bool false]) ∧ Kept [] W w') := hidOf (fun W => rfnew_any k W)
  have E : rbJ (bmS h k tl) (rfA (fmS k) none 0 0 none 0 0 none 0 0) = #[.int .u64 h, .int .u64 k, .int .i64 tl, .int .i64 1, .int .i64 0, .int .u64 k, .int .i64 0, .int .i64 0, .int .u64 9223372036854775808, .int .u64 0, .int .u64 0, .int .u64 0, .slice none 0 0, .slice none 0 0, .slice none 0 0, .int .i64 0, .bool false, .int .u64 0, .bool (decide (tl < 2))] := rfl
  rw [E]
  clear E
  obtain ⟨b, hb⟩ : ∃ b, b = w.heap.size := ⟨_, rfl⟩
  have ST : Hid (RW 46 (w.alloc (.cells rbZ 46)) b rbZ ∧ Kept [] w (w.alloc (.cells rbZ 46))) := hidOf ⟨by rw [hb]; exact RW.new _ _ _, (Kept.refl [] w).alloc _⟩
  go_enter Tryz.func8, Tryz.ntmps8
  go_upto_region 1 with (fail)
  rw [← hb]
  refine gen_world (fun W => RW 46 W b rbZ ∧ Kept [] w W) ST.out ?_
  have hbw : w.heap.size ≤ b := by omega
  clear ST hb
  rintro W ⟨C0, hk⟩
  go_wp2_with fail
  refine (FN.out _).mono ?_
  rintro e w1 ⟨rfl, K1⟩
  have C1 := C0.kept K1 (by simp)
  go_wp2_with (first | ((with_reducible change wpList _ _ _ (Oper.mk _ (Op.store 46 _ _) _ _ _ _ :: _) _ _); refine wpList_store_rw 46 isT_rb rfl (.tmp 6) (.tmp 14) rfl b #[.int .u64 h, .int .u64 k, .int .i64 tl, .int .i64 1, .int .i64 0, .int .u64 k, .int .i64 0, .int .i64 0, .int .u64 9223372036854775808, .int .u64 0, .int .u64 0, .int .u64 0, .slice none 0 0, .slice none 0 0, .slice none 0 0, .int .i64 0, .bool false, .int .u64 0, .bool (decide (tl < 2))] rfl rfl rfl (by simp [Value.oneCell']) rbZ C1 rfl ?_))
  refine bodyPost_ret (v := .agg #[.int .u64 h, .int .u64 k, .int .i64 tl, .int .i64 1, .int .i64 0, .int .u64 k, .int .i64 0, .int .i64 0, .int .u64 9223372036854775808, .int .u64 0, .int .u64 0, .int .u64 0, .slice none 0 0, .slice none 0 0, .slice none 0 0, .int .i64 0, .bool false, .int .u64 0, .bool (decide (tl < 2))]) ?_ rfl ⟨rfl, (hk.trans K1).setRow (b := b) (Or.inr hbw) _⟩
  obtain ⟨fs, hu⟩ := isT_rb.2
  exact results_cell_row Tryz.results8 _ _ b 46 _ (0, 0) _ rfl (C1.row _) hu rfl (by rw [isT_rb.1]; rfl)
end K
end Go.Proofs.YtkjjieklccbmoaaGreatDoor
namespace Go.Proofs.YtkjjieklccbmoaaGreatDoor
open Go.RowKit (Grown Hid Below)
open Go.Deep
namespace K
set_option maxRecDepth 100000
/-- The blocks with which a function of three structs begins that gives back three. -/
structure P6 (w W : World) (b : Nat) (A M G : Array Value) : Prop where
  f : RW 46 W b A
  m : RW 35 W (b + 1) M
  g : RW 49 W (b + 1 + 1) G
  x : RW 46 W (b + 1 + 1 + 1) rbZ
  y : RW 35 W (b + 1 + 1 + 1 + 1) rmZ
  z : RW 49 W (b + 1 + 1 + 1 + 1 + 1) rgZ
  k : Kept [] w W
  old : w.heap.size ≤ b
theorem P6.start (w : World) (A M G : Array Value) {b : Nat} (hb : b = w.heap.size) : P6 w ((((((w.alloc (.cells A 46)).alloc (.cells M 35)).alloc (.cells G 49)).alloc (.cells rbZ 46)).alloc (.cells rmZ 35)).alloc (.cells rgZ 49)) b A M G := by
  subst hb
  refine ⟨(((((RW.new _ _ _).up _).up _).up _).up _).up _, ?_, ?_, ?_, ?_, ?_, ((((((Kept.refl [] w).alloc _).alloc _).alloc _).alloc _).alloc _).alloc _, Nat.le_refl _⟩
  · have z := ((((RW.new 35 (w.alloc (.cells A 46)) M).up (.cells G 49)).up (.cells rbZ 46)).up (.cells rmZ 35)).up (.cells rgZ 49); rw [nblk_alloc] at z; exact z
  · have z := (((RW.new 49 ((w.alloc (.cells A 46)).alloc (.cells M 35)) G).up (.cells rbZ 46)).up (.cells rmZ 35)).up (.cells rgZ 49); rw [nblk_alloc, nblk_alloc] at z; exact z
  · have z := ((RW.new 46 (((w.alloc (.cells A 46)).alloc (.cells M 35)).alloc (.cells G 49)) rbZ).up (.cells rmZ 35)).up (.cells rgZ 49); rw [nblk_alloc, nblk_alloc, nblk_alloc] at z; exact z
  · have z := (RW.new 35 ((((w.alloc (.cells A 46)).alloc (.cells M 35)).alloc (.cells G 49)).alloc (.cells rbZ 46)) rmZ).up (.cells rgZ 49); rw [nblk_alloc, nblk_alloc, nblk_alloc, nblk_alloc] at z; exact z
  · have z := RW.new 49 (((((w.alloc (.cells A 46)).alloc (.cells M 35)).alloc (.cells G 49)).alloc (.cells rbZ 46)).alloc (.cells rmZ 35)) rgZ; rw [nblk_alloc, nblk_alloc, nblk_alloc, nblk_alloc, nblk_alloc] at z; exact z
theorem P6.new {w W V : World} {b : Nat} {A M G : Array Value} (h : P6 w W b A M G) (k : Kept [] W V) : P6 w V b A M G :=
  ⟨h.f.kept k (by simp), h.m.kept k (by simp), h.g.kept k (by simp), h.x.kept k (by simp), h.y.kept k (by simp), h.z.kept k (by simp), h.k.trans k, h.old⟩
theorem P6.setF {w W : World} {b : Nat} {A M G : Array Value} (h : P6 w W b A M G) (X : Array Value) : P6 w (W.setRow b X) b X M G :=
  ⟨h.f.row X, h.m.rowOther X (by omega), h.g.rowOther X (by omega), h.x.rowOther X (by omega), h.y.rowOther X (by omega), h.z.rowOther X (by omega), h.k.setRow (Or.inr h.old) X, h.old⟩
theorem P6.setM {w W : World} {b : Nat} {A M G : Array Value} (h : P6 w W b A M G) (X : Array Value) : P6 w (W.setRow (b + 1) X) b A X G :=
  ⟨h.f.rowOther X (by omega), h.m.row X, h.g.rowOther X (by omega), h.x.rowOther X (by omega), h.y.rowOther X (by omega), h.z.rowOther X (by omega), h.k.setRow (Or.inr (by have := h.old; omega)) X, h.old⟩
theorem P6.setG {w W : World} {b : Nat} {A M G : Array Value} (h : P6 w W b A M G) (X : Array Value) : P6 w (W.setRow (b + 1 + 1) X) b A M X :=
  ⟨h.f.rowOther X (by omega), h.m.rowOther X (by omega), h.g.row X, h.x.rowOther X (by omega), h.y.rowOther X (by omega), h.z.rowOther X (by omega), h.k.setRow (Or.inr (by have := h.old; omega)) X, h.old⟩
theorem P6.cell {w W : World} {b : Nat} {A M G : Array Value} (h : P6 w W b A M G) (i : Nat) (v : Value) : P6 w (W.setCell ⟨b, i, none⟩ v) b (A.setIfInBounds i v) M G := by
  have k : Kept [b] W (W.setCell ⟨b, i, none⟩ v) := (Kept.refl [b] W).setCell (Or.inl (by simp)) v
  exact ⟨h.f.set i v, h.m.kept k (by simp), h.g.kept k (by simp; omega), h.x.kept k (by simp; omega), h.y.kept k (by simp; omega), h.z.kept k (by simp; omega), h.k.then k (by simp; exact h.old), h.old⟩
/-- The machine, the words and where they lie, and the blocks. -/
structure S6 (w W : World) (b base g : Nat) (c : Cfg) (n : Nat) (f : Bm) (cs : List Int) (cnt : Int) (a : Acc) (A M G : Array Value) : Prop where
  r : P6 w W b A M G
  f : RB base W f A
  v : Wv w g c n cs cnt a M W
theorem S6.setF {w W : World} {b base g : Nat} {c : Cfg} {n : Nat} {f f' : Bm} {cs : List Int} {cnt : Int} {a : Acc} {A M G X : Array Value} (h : S6 w W b base g c n f cs cnt a A M G) (hX : RB base W f' X) : S6 w (W.setRow b X) b base g c n f' cs cnt a X M G :=
  ⟨h.r.setF X, hX.far1 h.r.f (by decide) (k_row W b X), h.v.one h.r.f (by decide) (k_row W b X)⟩
theorem S6.new {w W V : World} {b base g : Nat} {c : Cfg} {n : Nat} {f : Bm} {cs : List Int} {cnt : Int} {a : Acc} {A M G : Array Value} (h : S6 w W b base g c n f cs cnt a A M G) (k : Kept [] W V) : S6 w V b base g c n f cs cnt a A M G :=
  ⟨h.r.new k, h.f.new k, h.v.new k⟩
/-- The words are written into their block. -/
theorem S6.ofM {w W : World} {b base g : Nat} {c : Cfg} {n : Nat} {f : Bm} {cs : List Int} {cnt : Int} {a : Acc} {A M G B : Array Value} (r : P6 w W b A M G) (hf : RB base W f A) (hv : Wv w g c n cs cnt a B W) : S6 w (W.setRow (b + 1) B) b base g c n f cs cnt a A B G :=
  ⟨r.setM B, hf.far1 r.m (by decide) (k_row W (b + 1) B), hv.one r.m (by decide) (k_row W (b + 1) B)⟩
theorem S6.setG {w W : World} {b base g : Nat} {c : Cfg} {n : Nat} {f : Bm} {cs : List Int} {cnt : Int} {a : Acc} {A M G : Array Value} (h : S6 w W b base g c n f cs cnt a A M G) (X : Array Value) : S6 w (W.setRow (b + 1 + 1) X) b base g c n f cs cnt a A M X :=
  ⟨h.r.setG X, h.f.far1 h.r.g (by decide) (k_row W (b + 1 + 1) X), h.v.one h.r.g (by decide) (k_row W (b + 1 + 1) X)⟩
/-- One cell of the machine's block is written. -/
theorem S6.cell {w W : World} {b base g : Nat} {c : Cfg} {n : Nat} {f f' : Bm} {cs : List Int} {cnt : Int} {a : Acc} {A M G : Array Value} {i : Nat} {v : Value} (h : S6 w W b base g c n f cs cnt a A M G) (hf : RB base W f' (A.setIfInBounds i v)) : S6 w (W.setCell ⟨b, i, none⟩ v) b base g c n f' cs cnt a (A.setIfInBounds i v) M G :=
  ⟨h.r.cell i v, hf.far1 h.r.f (by decide) (k_cell W b i v), h.v.one h.r.f (by decide) (k_cell W b i v)⟩
/-- What is given back. -/
structure T6 (w W : World) (b base g : Nat) (c : Cfg) (n : Nat) (f : Bm) (cs : List Int) (cnt : Int) (a : Acc) (A M G : Array Value) : Prop where
  x : RW 46 W (b + 1 + 1 + 1) A
  y : RW 35 W (b + 1 + 1 + 1 + 1) M
  z : RW 49 W (b + 1 + 1 + 1 + 1 + 1) G
  f : RB base W f A
  v : Wv w g c n cs cnt a M W
  k : Kept [] w W
theorem S6.ret {w W : World} {b base g : Nat} {c : Cfg} {n : Nat} {f : Bm} {cs : List Int} {cnt : Int} {a : Acc} {A M G : Array Value} (h : S6 w W b base g c n f cs cnt a A M G) : T6 w (((W.drew.setRow (b + 1 + 1 + 1) A).setRow (b + 1 + 1 + 1 + 1) M).setRow (b + 1 + 1 + 1 + 1 + 1) G) b base g c n f cs cnt a A M G := by
  have kd := (Kept.refl [] W).drew
  have x0 := h.r.x.kept kd (by simp)
  have y0 := h.r.y.kept kd (by simp)
  have z0 := h.r.z.kept kd (by simp)
  have f0 := h.f.new kd
  have v0 := h.v.new kd
  have k0 := h.r.k.trans kd
  have y1 := y0.rowOther A (c := (b + 1 + 1 + 1)) (by omega)
  have z1 := z0.rowOther A (c := (b + 1 + 1 + 1)) (by omega)
  have z2 := z1.rowOther M (c := (b + 1 + 1 + 1 + 1)) (by omega)
  have f1 := f0.far1 x0 (by decide) (k_row _ _ A)
  have v1 := v0.one x0 (by decide) (k_row _ _ A)
  have f2 := f1.far1 y1 (by decide) (k_row _ _ M)
  have v2 := v1.one y1 (by decide) (k_row _ _ M)
  have o := h.r.old
  exact ⟨((x0.row A).rowOther M (by omega)).rowOther G (by omega), (y1.row M).rowOther G (by omega), z2.row G, f2.far1 z2 (by decide) (k_row _ _ G), v2.one z2 (by decide) (k_row _ _ G), ((k0.setRow (Or.inr (by omega)) A).setRow (Or.inr (by omega)) M).setRow (Or.inr (by omega)) G⟩
theorem S6.nx {w W : World} {b base g : Nat} {c : Cfg} {n : Nat} {f : Bm} {cs : List Int} {cnt : Int} {a : Acc} {A M G : Array Value} (h : S6 w W b base g c n f cs cnt a A M G) (v : Nat) : S6 w (W.setCell ⟨b, 4, none⟩ (.int .i64 v)) b base g c n { f with nx := v } cs cnt a (A.setIfInBounds 4 (.int .i64 v)) M G := h.cell (h.f.setnx v)
theorem S6.lv {w W : World} {b base g : Nat} {c : Cfg} {n : Nat} {f : Bm} {cs : List Int} {cnt : Int} {a : Acc} {A M G : Array Value} (h : S6 w W b base g c n f cs cnt a A M G) (v : Int) : S6 w (W.setCell ⟨b, 3, none⟩ (.int .i64 v)) b base g c n { f with lv := v } cs cnt a (A.setIfInBounds 3 (.int .i64 v)) M G := h.cell (h.f.setlv v)
theorem S6.w {w W : World} {b base g : Nat} {c : Cfg} {n : Nat} {f : Bm} {cs : List Int} {cnt : Int} {a : Acc} {A M G : Array Value} (h : S6 w W b base g c n f cs cnt a A M G) (v : Int) : S6 w (W.setCell ⟨b, 17, none⟩ (.int .u64 v)) b base g c n { f with w := v } cs cnt a (A.setIfInBounds 17 (.int .u64 v)) M G := h.cell (h.f.setw v)
theorem S6.d {w W : World} {b base g : Nat} {c : Cfg} {n : Nat} {f : Bm} {cs : List Int} {cnt : Int} {a : Acc} {A M G : Array Value} (h : S6 w W b base g c n f cs cnt a A M G) (v : Bool) : S6 w (W.setCell ⟨b, 18, none⟩ (.bool v)) b base g c n { f with d := v } cs cnt a (A.setIfInBounds 18 (.bool v)) M G := h.cell (h.f.setd v)
/-- The find in its midst is written. -/
theorem P6.cells {w W : World} {b : Nat} {A M G : Array Value} (h : P6 w W b A M G) (o : Nat) (vs : List Value) : P6 w (W.setCells b o vs) b (setFrom A o vs) M G := by
  have k : Kept [b] W (W.setCells b o vs) := kept_cells b vs o (Kept.refl [b] W)
  exact ⟨RW.cellsFrom vs o h.f, h.m.kept k (by simp), h.g.kept k (by simp; omega), h.x.kept k (by simp; omega), h.y.kept k (by simp; omega), h.z.kept k (by simp; omega), h.k.then k (by simp; exact h.old), h.old⟩
theorem S6.f' {w W : World} {b base g : Nat} {c : Cfg} {n : Nat} {f : Bm} {cs : List Int} {cnt : Int} {a : Acc} {A M G A' : Array Value} {f' : Fm} (h : S6 w W b base g c n f cs cnt a A M G) (hf : RF base W f' A') : S6 w (W.setCells b 5 A'.toList) b base g c n { f with f := f' } cs cnt a (setFrom A 5 A'.toList) M G := by
  have k : Kept [b] W (W.setCells b 5 A'.toList) := kept_cells b A'.toList 5 (Kept.refl [b] W)
  exact ⟨h.r.cells 5 A'.toList, (h.f.setf hf).far1 h.r.f (by decide) k, h.v.one h.r.f (by decide) k⟩
end K
end Go.Proofs.YtkjjieklccbmoaaGreatDoor
namespace Go.Proofs.YtkjjieklccbmoaaGreatDoor
open Go.RowKit (Grown Hid Below)
open Go.Deep
namespace K
set_option maxRecDepth 100000
theorem nin1 {x a : Nat} (h : ¬ x = a) : x ∉ [a] := by simp [h]
set_option maxHeartbeats 8000000 in
theorem rlook_any {base : Nat} {c : Cfg} {s : Bm} {X M : Array Value} {w : World} (h : RB base w s X) (_sM : M.size = 15) (hM3 : M[3]? = some (.int .i64 c.h)) (hd : s.d = false) (fl : s.f.ss.length ≤ 1000 ∧ s.f.ks.length ≤ 1000) :
    Calls Tryz.prog 32 #[.agg X, .agg M] w fun e w' => ∃ Y, e = .returned (.agg Y) ∧ RB base w' (s.look c) Y ∧ Kept [] w w' := by
  obtain ⟨b, hb⟩ : ∃ b, b = w.heap.size := ⟨_, rfl⟩
  have ST : Hid (RB base (((w.alloc (.cells X 46)).alloc (.cells M 35)).alloc (.cells rbZ 46)) s X ∧ RW 46 (((w.alloc (.cells X 46)).alloc (.cells M 35)).alloc (.cells rbZ 46)) b X ∧ RW 35 (((w.alloc (.cells X 46)).alloc (.cells M 35)).alloc (.cells rbZ 46)) (b + 1) M ∧ RW 46 (((w.alloc (.cells X 46)).alloc (.cells M 35)).alloc (.cells rbZ 46)) (b + 1 + 1) rbZ ∧ Kept [] w (((w.alloc (.cells X 46)).alloc (.cells M 35)).alloc (.cells rbZ 46))) := hidOf (by
    have z := three_new 46 35 46 w X M rbZ hb
    exact ⟨h.new z.2.2.2, z⟩)
  obtain ⟨c0, c1, c2, c3, c4, c17, c18⟩ := h.cells
  obtain ⟨lv, hlv⟩ : ∃ x, x = s.lv := ⟨_, rfl⟩
  obtain ⟨tl, htl⟩ : ∃ x, x = s.tl := ⟨_, rfl⟩
  obtain ⟨k, hk⟩ : ∃ x, x = s.k := ⟨_, rfl⟩
  obtain ⟨su, hsu⟩ : ∃ x, x = s.su := ⟨_, rfl⟩
  obtain ⟨ke, hke⟩ : ∃ x, x = s.ke := ⟨_, rfl⟩
  rw [← htl] at c2
  rw [← hlv] at c3
  have HE := hidOf (And.intro hlv (And.intro htl (And.intro hk (And.intro hsu hke))))
  clear h hlv htl hk hsu hke
  go_enter Tryz.func32, Tryz.ntmps32
  go_upto_region 1 with (fail)
  rw [← hb]
  refine gen_world (fun W => RB base W s X ∧ RW 46 W b X ∧ RW 35 W (b + 1) M ∧ RW 46 W (b + 1 + 1) rbZ ∧ Kept [] w W) ST.out ?_
  have hbw : w.heap.size ≤ b := by omega
  clear ST hb
  rintro W Q0
  have p2 := cell_of_blk Q0.2.1 (i := 2) c2
  have p3 := cell_of_blk Q0.2.1 (i := 3) c3
  have p4 := cell_of_blk Q0.2.1 (i := 4) c4
  have p18 := cell_of_blk Q0.2.1 (i := 18) c18
  have pl := lt_of_blk Q0.2.1
  have pf := free_of_blk Q0.2.1
  have m3 := cell_of_blk Q0.2.2.1 (i := 3) hM3
  have HQ := hidOf Q0
  clear Q0
  by_cases h1 : tl ≤ lv
  · clear p18
    have p18 := cell_of_blk HQ.out.2.1 (i := 18) c18
    obtain ⟨D0, hD0⟩ : ∃ D0, D0 = true := ⟨_, rfl⟩
    have HD0 := hidOf hD0
    clear hD0
    go_upto_region 4 with (fail)
    refine gen_world (fun V => ∃ X1, RB base V { s with nx := 1, d := D0 } X1 ∧ RW 46 V b X1 ∧ RW 35 V (b + 1) M ∧ RW 46 V (b + 1 + 1) rbZ ∧ Kept [] w V) ?_ ?_
    · rw [HD0.out]
      have k4 := k_cell W b 4 (.int .i64 1)
      have z0 := HQ.out
      have R1 := (z0.1.setnx 1).far1 z0.2.1 (by decide) k4
      have B1 := z0.2.1.set 4 (.int .i64 1)
      have k5 := k_cell (W.setCell ⟨b, 4, none⟩ (.int .i64 1)) b 18 (.bool true)
      exact ⟨_, (R1.setd true).far1 B1 (by decide) k5, B1.set 18 (.bool true), (z0.2.2.1.kept k4 (nin1 (by omega))).kept k5 (nin1 (by omega)), (z0.2.2.2.1.kept k4 (nin1 (by omega))).kept k5 (nin1 (by omega)), (z0.2.2.2.2.then k4 (by simp; omega)).then k5 (by simp; omega)⟩
    rintro V ⟨X1, HV1⟩
    have HV := hidOf HV1
    clear HV1 p18 p2 p3 p4 pl pf m3 HQ
    have HLK : Hid (s.look c = { s with nx := 1, d := D0 || (decide (su ≠ 0) && decide (ke = k)) }) := hidOf (by
      obtain ⟨hlv, htl, hk, hsu, hke⟩ := HE.out
      rw [HD0.out]
      unfold Bm.look
      rw [show s.su = su from hsu.symm, show s.ke = ke from hke.symm, ← hk, ← htl, ← hlv]
      congr 1
      simp only [Bool.decide_or, Bool.decide_and]
      simp [h1])
    obtain ⟨A, hRF, lenA, MD⟩ := HV.out.1.mid
    have MID := hidOf (fun (W' : World) (kk : Kept [] V W') => (MD W' b 46 (HV.out.2.1.kept kk (by simp))).1)
    obtain ⟨fs, u44⟩ := isT_rf.2
    have i44 : (Tryz.prog.info? 44).map (·.size) = some A.toList.length := by rw [isT_rf.1, lenA]
    have HS0 : Hid (∀ W', Kept [] V W' → W'.cell? ⟨b, 1, none⟩ = some (.int .u64 k) ∧ W'.cell? ⟨b, 3, none⟩ = some (.int .i64 lv) ∧ b < W'.heap.size) := hidOf (fun W' kk => by
      have z := HV.out.2.1.kept kk (by simp)
      have ce := HV.out.1.cells
      obtain ⟨hlv, htl, hk, hsu, hke⟩ := HE.out
      exact ⟨cell_of_blk z (by rw [hk]; exact ce.2.1), cell_of_blk z (by rw [hlv]; exact ce.2.2.2.1), lt_of_blk z⟩)
    have SUC : Hid (∀ Y, Kept [] V Y → Calls Tryz.prog 30 #[.agg A, .int .i64 lv] Y fun e w' => e = .returned (.int .u64 su) ∧ Kept [] V w') := hidOf (fun Y kk => (rsucc_any base s.f A lv Y (hRF.new kk) fl.1).mono fun _ _ z => ⟨by rw [z.1, HE.out.2.2.2.1, HE.out.1]; rfl, kk.trans z.2⟩)
    have KEY : Hid (∀ Y, Kept [] V Y → Calls Tryz.prog 65 #[.agg A, .int .i64 lv] Y fun e w' => e = .returned (.int .u64 ke) ∧ Kept [] V w') := hidOf (fun Y kk => (rkey_any base s.f A lv Y (hRF.new kk) fl.2).mono fun _ _ z => ⟨by rw [z.1, HE.out.2.2.2.2, HE.out.1]; rfl, kk.trans z.2⟩)
    clear MD hRF
    by_cases hs0 : su = 0
    · have g0 : decide (su ≠ 0) = false := by simp [hs0]
      refine wp_region_held_drew (S := fun w' => Kept [] V w') (by kernel_rfl) (Kept.refl [] V).drew (fun hS => ?_)
      refine wpAnyH_take (i := 0) (oi := { dst := some 20, op := Op.fieldAddr 46 (Operand.tmp 2) 5, type := 0, pos := "ref.go:33", after := #[], guard := none }) (v := .pointer (some ⟨b, 5, none⟩)) rfl (by kernel_rfl) (by kernel_rfl) (by kernel_rfl) (fun _ _ _ h => h) (Or.inl ⟨by rfl, fun w hSw => by obtain ⟨q1, q2, q3⟩ := HS0.out _ hSw; go_simp⟩) hS ?_
      try simp only [Act.put, List.setIfInBounds_toArray, List.set_cons_zero, List.set_cons_succ]
      refine wpAnyH_take (i := 1) (oi := { dst := some 21, op := Op.load 44 (Operand.tmp 20), type := 44, pos := "ref.go:33", after := #[{ on := 0, ground := Ground.data }], guard := none }) (v := .agg A) rfl (by kernel_rfl) (by kernel_rfl) (by kernel_rfl) (fun _ _ _ h => h) (yieldsIf_load_mid rfl 44 (.tmp 20) rfl b 5 rfl A.toList _ (fun W' kk => MID.out W' kk) u44 rfl i44) hS ?_
      try simp only [Act.put, List.setIfInBounds_toArray, List.set_cons_zero, List.set_cons_succ]
      refine wpAnyH_take (i := 2) (oi := { dst := some 22, op := Op.fieldAddr 46 (Operand.tmp 2) 3, type := 0, pos := "ref.go:33", after := #[], guard := none }) (v := .pointer (some ⟨b, 3, none⟩)) rfl (by kernel_rfl) (by kernel_rfl) (by kernel_rfl) (fun _ _ _ h => h) (Or.inl ⟨by rfl, fun w hSw => by obtain ⟨q1, q2, q3⟩ := HS0.out _ hSw; go_simp⟩) hS ?_
      try simp only [Act.put, List.setIfInBounds_toArray, List.set_cons_zero, List.set_cons_succ]
      refine wpAnyH_take (i := 3) (oi := { dst := some 23, op := Op.load 3 (Operand.tmp 22), type := 3, pos := "ref.go:33", after := #[{ on := 2, ground := Ground.data }], guard := none }) (v := .int .i64 lv) rfl (by kernel_rfl) (by kernel_rfl) (by kernel_rfl) (fun _ _ _ h => h) (Or.inl ⟨by rfl, fun w hSw => by obtain ⟨q1, q2, q3⟩ := HS0.out _ hSw; go_simp⟩) hS ?_
      try simp only [Act.put, List.setIfInBounds_toArray, List.set_cons_zero, List.set_cons_succ]
      refine wpAnyH_ready (rs := [4]) (by kernel_rfl) (by simp) ?_
      refine AllReadyH.cons (o := { dst := some 24, op := Op.call { callee := Callee.value (Operand.func 30), args := #[Operand.tmp 21, Operand.tmp 23], argTypes := #[44, 3] }, type := 25, pos := "ref.go:33", after := #[{ on := 1, ground := Ground.data }, { on := 3, ground := Ground.data }], guard := none }) rfl (fun K hK => ?_) AllReadyH.nil
      rw [if_pos (by rfl)]
      refine wp_calls 30 #[.agg A, .int .i64 lv] (by kernel_rfl) (fun v V' => v = .int .u64 su ∧ Kept [] V V') ((SUC.out _ hS).mono fun e w' hh => ⟨_, hh.1, rfl, hh.2⟩) ?_
      rintro _ wt0 ⟨rfl, KT0⟩
      try simp only [Act.put, List.setIfInBounds_toArray, List.set_cons_zero, List.set_cons_succ]
      refine hK.out _ _ (KT0) (fun hS => ?_)
      clear hK K
      refine wpAnyH_take (i := 5) (oi := { dst := some 25, op := Op.binOp BinOp.neq 25 (Operand.tmp 24) (Operand.const (Value.int IntKind.u64 0)) 25, type := 4, pos := "ref.go:33", after := #[{ on := 4, ground := Ground.data }], guard := none }) (v := .bool false) rfl (by kernel_rfl) (by kernel_rfl) (by kernel_rfl) (fun _ _ _ h => h) (Or.inl ⟨by rfl, fun w hSw => by obtain ⟨q1, q2, q3⟩ := HS0.out _ hSw; go_simp⟩) hS ?_
      try simp only [Act.put, List.setIfInBounds_toArray, List.set_cons_zero, List.set_cons_succ]
      refine wpAnyH_take (i := 6) (oi := { dst := some 26, op := Op.move (Operand.tmp 25), type := 4, pos := "ref.go:33", after := #[{ on := 5, ground := Ground.data }, { on := 4, ground := Ground.chain }], guard := none }) (v := .bool false) rfl (by kernel_rfl) (by kernel_rfl) (by kernel_rfl) (fun _ _ _ h => h) (Or.inl ⟨by rfl, fun w hSw => by obtain ⟨q1, q2, q3⟩ := HS0.out _ hSw; go_simp⟩) hS ?_
      try simp only [Act.put, List.setIfInBounds_toArray, List.set_cons_zero, List.set_cons_succ]
      refine wpAnyH_take (i := 7) (oi := { dst := some 27, op := Op.fieldAddr 46 (Operand.tmp 2) 5, type := 0, pos := "ref.go:33", after := #[{ on := 6, ground := Ground.guard }], guard := some (6, true) }) (v := undef) rfl (by kernel_rfl) (by kernel_rfl) (by kernel_rfl) (fun _ _ _ h => h) (Or.inr ⟨by kernel_rfl, rfl⟩) hS ?_
      try simp only [Act.put, List.setIfInBounds_toArray, List.set_cons_zero, List.set_cons_succ]
      refine wpAnyH_take (i := 8) (oi := { dst := some 28, op := Op.load 44 (Operand.tmp 27), type := 44, pos := "ref.go:33", after := #[{ on := 7, ground := Ground.data }, { on := 6, ground := Ground.guard }], guard := some (6, true) }) (v := undef) rfl (by kernel_rfl) (by kernel_rfl) (by kernel_rfl) (fun _ _ _ h => h) (Or.inr ⟨by kernel_rfl, rfl⟩) hS ?_
      try simp only [Act.put, List.setIfInBounds_toArray, List.set_cons_zero, List.set_cons_succ]
      refine wpAnyH_take (i := 9) (oi := { dst := some 29, op := Op.fieldAddr 46 (Operand.tmp 2) 3, type := 0, pos := "ref.go:33", after := #[{ on := 6, ground := Ground.guard }], guard := some (6, true) }) (v := undef) rfl (by kernel_rfl) (by kernel_rfl) (by kernel_rfl) (fun _ _ _ h => h) (Or.inr ⟨by kernel_rfl, rfl⟩) hS ?_
      try simp only [Act.put, List.setIfInBounds_toArray, List.set_cons_zero, List.set_cons_succ]
      refine wpAnyH_take (i := 10) (oi := { dst := some 30, op := Op.load 3 (Operand.tmp 29), type := 3, pos := "ref.go:33", after := #[{ on := 9, ground := Ground.data }, { on := 6, ground := Ground.guard }], guard := some (6, true) }) (v := undef) rfl (by kernel_rfl) (by kernel_rfl) (by kernel_rfl) (fun _ _ _ h => h) (Or.inr ⟨by kernel_rfl, rfl⟩) hS ?_
      try simp only [Act.put, List.setIfInBounds_toArray, List.set_cons_zero, List.set_cons_succ]
      refine wpAnyH_take (i := 11) (oi := { dst := some 31, op := Op.call { callee := Callee.value (Operand.func 65), args := #[Operand.tmp 28, Operand.tmp 30], argTypes := #[44, 3] }, type := 25, pos := "ref.go:33", after := #[{ on := 8, ground := Ground.data }, { on := 10, ground := Ground.data }, { on := 6, ground := Ground.chain }, { on := 6, ground := Ground.guard }], guard := some (6, true) }) (v := undef) rfl (by kernel_rfl) (by kernel_rfl) (by kernel_rfl) (fun _ _ _ h => h) (Or.inr ⟨by kernel_rfl, rfl⟩) hS ?_
      try simp only [Act.put, List.setIfInBounds_toArray, List.set_cons_zero, List.set_cons_succ]
      refine wpAnyH_take (i := 12) (oi := { dst := some 32, op := Op.fieldAddr 46 (Operand.tmp 2) 1, type := 0, pos := "ref.go:33", after := #[{ on := 6, ground := Ground.guard }], guard := some (6, true) }) (v := undef) rfl (by kernel_rfl) (by kernel_rfl) (by kernel_rfl) (fun _ _ _ h => h) (Or.inr ⟨by kernel_rfl, rfl⟩) hS ?_
      try simp only [Act.put, List.setIfInBounds_toArray, List.set_cons_zero, List.set_cons_succ]
      refine wpAnyH_take (i := 13) (oi := { dst := some 33, op := Op.load 25 (Operand.tmp 32), type := 25, pos := "ref.go:33", after := #[{ on := 12, ground := Ground.data }, { on := 6, ground := Ground.guard }], guard := some (6, true) }) (v := undef) rfl (by kernel_rfl) (by kernel_rfl) (by kernel_rfl) (fun _ _ _ h => h) (Or.inr ⟨by kernel_rfl, rfl⟩) hS ?_
      try simp only [Act.put, List.setIfInBounds_toArray, List.set_cons_zero, List.set_cons_succ]
      refine wpAnyH_take (i := 14) (oi := { dst := some 34, op := Op.binOp BinOp.eql 25 (Operand.tmp 31) (Operand.tmp 33) 25, type := 4, pos := "ref.go:33", after := #[{ on := 11, ground := Ground.data }, { on := 13, ground := Ground.data }, { on := 6, ground := Ground.guard }], guard := some (6, true) }) (v := undef) rfl (by kernel_rfl) (by kernel_rfl) (by kernel_rfl) (fun _ _ _ h => h) (Or.inr ⟨by kernel_rfl, rfl⟩) hS ?_
      try simp only [Act.put, List.setIfInBounds_toArray, List.set_cons_zero, List.set_cons_succ]
      refine wpAnyH_take (i := 15) (oi := { dst := some 35, op := Op.pick (Operand.tmp 26) (Operand.tmp 34) (Operand.const (Value.bool false)), type := 4, pos := "ref.go:33", after := #[{ on := 6, ground := Ground.data }, { on := 14, ground := Ground.data }], guard := none }) (v := .bool false) rfl (by kernel_rfl) (by kernel_rfl) (by kernel_rfl) (fun _ _ _ h => h) (Or.inl ⟨by rfl, fun w hSw => by obtain ⟨q1, q2, q3⟩ := HS0.out _ hSw; go_simp⟩) hS ?_
      try simp only [Act.put, List.setIfInBounds_toArray, List.set_cons_zero, List.set_cons_succ]
      refine wpAnyH_done (by kernel_rfl) ?_ _
      have QX := HV.out.2.1.kept KT0 (by simp)
      have QZ := HV.out.2.2.2.1.kept KT0 (by simp)
      have HR9 := hidOf (HV.out.1.new KT0)
      have HK9 := hidOf (HV.out.2.2.2.2.trans KT0)
      clear hS
      have YR := HR9.out
      have YX := QX
      have YZ := QZ
      have YK := HK9.out
      have sY := YR.size
      have oY := YR.one
      go_wp2_with (first
        | ((with_reducible change wpList _ _ _ (Oper.mk _ (Op.load 46 (Operand.tmp 2)) _ _ _ _ :: _) _ _); refine wpList_load_rw 46 isT_rb rfl (.tmp 2) rfl b rfl X1 sY YX ?_)
        | ((with_reducible change wpList _ _ _ (Oper.mk _ (Op.store 46 (Operand.tmp 4) _) _ _ _ _ :: _) _ _); refine wpList_store_rw 46 isT_rb rfl (.tmp 4) (.tmp 37) rfl (b + 1 + 1) X1 rfl rfl sY oY rbZ YZ rfl ?_))
      have kz := k_row wt0 (b + 1 + 1) X1
      obtain ⟨fs9, hu9⟩ := isT_rb.2
      refine bodyPost_ret (v := .agg X1) (results_cell_row Tryz.results32 _ _ (b + 1 + 1) 46 _ (0, 0) _ rfl (YZ.row _) hu9 rfl (by rw [isT_rb.1, sY])) rfl ⟨_, rfl, ?_, YK.then kz (by simp; omega)⟩
      have z := YR.far1 YZ (by decide) kz
      rw [HLK.out, show (D0 || (decide (su ≠ 0) && decide (ke = k))) = D0 by simp [hs0]]
      exact z
    have g0 : decide (su ≠ 0) = true := by simp [hs0]
    by_cases hk0 : ke = k
    ·
      refine wp_region_held_drew (S := fun w' => Kept [] V w') (by kernel_rfl) (Kept.refl [] V).drew (fun hS => ?_)
      refine wpAnyH_take (i := 0) (oi := { dst := some 20, op := Op.fieldAddr 46 (Operand.tmp 2) 5, type := 0, pos := "ref.go:33", after := #[], guard := none }) (v := .pointer (some ⟨b, 5, none⟩)) rfl (by kernel_rfl) (by kernel_rfl) (by kernel_rfl) (fun _ _ _ h => h) (Or.inl ⟨by rfl, fun w hSw => by obtain ⟨q1, q2, q3⟩ := HS0.out _ hSw; go_simp⟩) hS ?_
      try simp only [Act.put, List.setIfInBounds_toArray, List.set_cons_zero, List.set_cons_succ]
      refine wpAnyH_take (i := 1) (oi := { dst := some 21, op := Op.load 44 (Operand.tmp 20), type := 44, pos := "ref.go:33", after := #[{ on := 0, ground := Ground.data }], guard := none }) (v := .agg A) rfl (by kernel_rfl) (by kernel_rfl) (by kernel_rfl) (fun _ _ _ h => h) (yieldsIf_load_mid rfl 44 (.tmp 20) rfl b 5 rfl A.toList _ (fun W' kk => MID.out W' kk) u44 rfl i44) hS ?_
      try simp only [Act.put, List.setIfInBounds_toArray, List.set_cons_zero, List.set_cons_succ]
      refine wpAnyH_take (i := 2) (oi := { dst := some 22, op := Op.fieldAddr 46 (Operand.tmp 2) 3, type := 0, pos := "ref.go:33", after := #[], guard := none }) (v := .pointer (some ⟨b, 3, none⟩)) rfl (by kernel_rfl) (by kernel_rfl) (by kernel_rfl) (fun _ _ _ h => h) (Or.inl ⟨by rfl, fun w hSw => by obtain ⟨q1, q2, q3⟩ := HS0.out _ hSw; go_simp⟩) hS ?_
      try simp only [Act.put, List.setIfInBounds_toArray, List.set_cons_zero, List.set_cons_succ]
      refine wpAnyH_take (i := 3) (oi := { dst := some 23, op := Op.load 3 (Operand.tmp 22), type := 3, pos := "ref.go:33", after := #[{ on := 2, ground := Ground.data }], guard := none }) (v := .int .i64 lv) rfl (by kernel_rfl) (by kernel_rfl) (by kernel_rfl) (fun _ _ _ h => h) (Or.inl ⟨by rfl, fun w hSw => by obtain ⟨q1, q2, q3⟩ := HS0.out _ hSw; go_simp⟩) hS ?_
      try simp only [Act.put, List.setIfInBounds_toArray, List.set_cons_zero, List.set_cons_succ]
      refine wpAnyH_ready (rs := [4]) (by kernel_rfl) (by simp) ?_
      refine AllReadyH.cons (o := { dst := some 24, op := Op.call { callee := Callee.value (Operand.func 30), args := #[Operand.tmp 21, Operand.tmp 23], argTypes := #[44, 3] }, type := 25, pos := "ref.go:33", after := #[{ on := 1, ground := Ground.data }, { on := 3, ground := Ground.data }], guard := none }) rfl (fun K hK => ?_) AllReadyH.nil
      rw [if_pos (by rfl)]
      refine wp_calls 30 #[.agg A, .int .i64 lv] (by kernel_rfl) (fun v V' => v = .int .u64 su ∧ Kept [] V V') ((SUC.out _ hS).mono fun e w' hh => ⟨_, hh.1, rfl, hh.2⟩) ?_
      rintro _ wt0 ⟨rfl, KT0⟩
      try simp only [Act.put, List.setIfInBounds_toArray, List.set_cons_zero, List.set_cons_succ]
      refine hK.out _ _ (KT0) (fun hS => ?_)
      clear hK K
      refine wpAnyH_take (i := 5) (oi := { dst := some 25, op := Op.binOp BinOp.neq 25 (Operand.tmp 24) (Operand.const (Value.int IntKind.u64 0)) 25, type := 4, pos := "ref.go:33", after := #[{ on := 4, ground := Ground.data }], guard := none }) (v := .bool true) rfl (by kernel_rfl) (by kernel_rfl) (by kernel_rfl) (fun _ _ _ h => h) (Or.inl ⟨by rfl, fun w hSw => by obtain ⟨q1, q2, q3⟩ := HS0.out _ hSw; go_simp⟩) hS ?_
      try simp only [Act.put, List.setIfInBounds_toArray, List.set_cons_zero, List.set_cons_succ]
      refine wpAnyH_take (i := 6) (oi := { dst := some 26, op := Op.move (Operand.tmp 25), type := 4, pos := "ref.go:33", after := #[{ on := 5, ground := Ground.data }, { on := 4, ground := Ground.chain }], guard := none }) (v := .bool true) rfl (by kernel_rfl) (by kernel_rfl) (by kernel_rfl) (fun _ _ _ h => h) (Or.inl ⟨by rfl, fun w hSw => by obtain ⟨q1, q2, q3⟩ := HS0.out _ hSw; go_simp⟩) hS ?_
      try simp only [Act.put, List.setIfInBounds_toArray, List.set_cons_zero, List.set_cons_succ]
      refine wpAnyH_take (i := 7) (oi := { dst := some 27, op := Op.fieldAddr 46 (Operand.tmp 2) 5, type := 0, pos := "ref.go:33", after := #[{ on := 6, ground := Ground.guard }], guard := some (6, true) }) (v := .pointer (some ⟨b, 5, none⟩)) rfl (by kernel_rfl) (by kernel_rfl) (by kernel_rfl) (fun _ _ _ h => h) (Or.inl ⟨by rfl, fun w hSw => by obtain ⟨q1, q2, q3⟩ := HS0.out _ hSw; go_simp⟩) hS ?_
      try simp only [Act.put, List.setIfInBounds_toArray, List.set_cons_zero, List.set_cons_succ]
      refine wpAnyH_take (i := 8) (oi := { dst := some 28, op := Op.load 44 (Operand.tmp 27), type := 44, pos := "ref.go:33", after := #[{ on := 7, ground := Ground.data }, { on := 6, ground := Ground.guard }], guard := some (6, true) }) (v := .agg A) rfl (by kernel_rfl) (by kernel_rfl) (by kernel_rfl) (fun _ _ _ h => h) (yieldsIf_load_mid rfl 44 (.tmp 27) rfl b 5 rfl A.toList _ (fun W' kk => MID.out W' kk) u44 rfl i44) hS ?_
      try simp only [Act.put, List.setIfInBounds_toArray, List.set_cons_zero, List.set_cons_succ]
      refine wpAnyH_take (i := 9) (oi := { dst := some 29, op := Op.fieldAddr 46 (Operand.tmp 2) 3, type := 0, pos := "ref.go:33", after := #[{ on := 6, ground := Ground.guard }], guard := some (6, true) }) (v := .pointer (some ⟨b, 3, none⟩)) rfl (by kernel_rfl) (by kernel_rfl) (by kernel_rfl) (fun _ _ _ h => h) (Or.inl ⟨by rfl, fun w hSw => by obtain ⟨q1, q2, q3⟩ := HS0.out _ hSw; go_simp⟩) hS ?_
      try simp only [Act.put, List.setIfInBounds_toArray, List.set_cons_zero, List.set_cons_succ]
      refine wpAnyH_take (i := 10) (oi := { dst := some 30, op := Op.load 3 (Operand.tmp 29), type := 3, pos := "ref.go:33", after := #[{ on := 9, ground := Ground.data }, { on := 6, ground := Ground.guard }], guard := some (6, true) }) (v := .int .i64 lv) rfl (by kernel_rfl) (by kernel_rfl) (by kernel_rfl) (fun _ _ _ h => h) (Or.inl ⟨by rfl, fun w hSw => by obtain ⟨q1, q2, q3⟩ := HS0.out _ hSw; go_simp⟩) hS ?_
      try simp only [Act.put, List.setIfInBounds_toArray, List.set_cons_zero, List.set_cons_succ]
      refine wpAnyH_take (i := 12) (oi := { dst := some 32, op := Op.fieldAddr 46 (Operand.tmp 2) 1, type := 0, pos := "ref.go:33", after := #[{ on := 6, ground := Ground.guard }], guard := some (6, true) }) (v := .pointer (some ⟨b, 1, none⟩)) rfl (by kernel_rfl) (by kernel_rfl) (by kernel_rfl) (fun _ _ _ h => h) (Or.inl ⟨by rfl, fun w hSw => by obtain ⟨q1, q2, q3⟩ := HS0.out _ hSw; go_simp⟩) hS ?_
      try simp only [Act.put, List.setIfInBounds_toArray, List.set_cons_zero, List.set_cons_succ]
      refine wpAnyH_take (i := 13) (oi := { dst := some 33, op := Op.load 25 (Operand.tmp 32), type := 25, pos := "ref.go:33", after := #[{ on := 12, ground := Ground.data }, { on := 6, ground := Ground.guard }], guard := some (6, true) }) (v := .int .u64 k) rfl (by kernel_rfl) (by kernel_rfl) (by kernel_rfl) (fun _ _ _ h => h) (Or.inl ⟨by rfl, fun w hSw => by obtain ⟨q1, q2, q3⟩ := HS0.out _ hSw; go_simp⟩) hS ?_
      try simp only [Act.put, List.setIfInBounds_toArray, List.set_cons_zero, List.set_cons_succ]
      refine wpAnyH_ready (rs := [11]) (by kernel_rfl) (by simp) ?_
      refine AllReadyH.cons (o := { dst := some 31, op := Op.call { callee := Callee.value (Operand.func 65), args := #[Operand.tmp 28, Operand.tmp 30], argTypes := #[44, 3] }, type := 25, pos := "ref.go:33", after := #[{ on := 8, ground := Ground.data }, { on := 10, ground := Ground.data }, { on := 6, ground := Ground.chain }, { on := 6, ground := Ground.guard }], guard := some (6, true) }) rfl (fun K hK => ?_) AllReadyH.nil
      rw [if_pos (by rfl)]
      refine wp_calls 65 #[.agg A, .int .i64 lv] (by kernel_rfl) (fun v V' => v = .int .u64 ke ∧ Kept [] V V') ((KEY.out _ hS).mono fun e w' hh => ⟨_, hh.1, rfl, hh.2⟩) ?_
      rintro _ wt1 ⟨rfl, KT1⟩
      try simp only [Act.put, List.setIfInBounds_toArray, List.set_cons_zero, List.set_cons_succ]
      refine hK.out _ _ (KT1) (fun hS => ?_)
      clear hK K
      refine wpAnyH_take (i := 14) (oi := { dst := some 34, op := Op.binOp BinOp.eql 25 (Operand.tmp 31) (Operand.tmp 33) 25, type := 4, pos := "ref.go:33", after := #[{ on := 11, ground := Ground.data }, { on := 13, ground := Ground.data }, { on := 6, ground := Ground.guard }], guard := some (6, true) }) (v := .bool true) rfl (by kernel_rfl) (by kernel_rfl) (by kernel_rfl) (fun _ _ _ h => h) (Or.inl ⟨by rfl, fun w hSw => by obtain ⟨q1, q2, q3⟩ := HS0.out _ hSw; go_simp⟩) hS ?_
      try simp only [Act.put, List.setIfInBounds_toArray, List.set_cons_zero, List.set_cons_succ]
      refine wpAnyH_take (i := 15) (oi := { dst := some 35, op := Op.pick (Operand.tmp 26) (Operand.tmp 34) (Operand.const (Value.bool false)), type := 4, pos := "ref.go:33", after := #[{ on := 6, ground := Ground.data }, { on := 14, ground := Ground.data }], guard := none }) (v := .bool true) rfl (by kernel_rfl) (by kernel_rfl) (by kernel_rfl) (fun _ _ _ h => h) (Or.inl ⟨by rfl, fun w hSw => by obtain ⟨q1, q2, q3⟩ := HS0.out _ hSw; go_simp⟩) hS ?_
      try simp only [Act.put, List.setIfInBounds_toArray, List.set_cons_zero, List.set_cons_succ]
      refine wpAnyH_done (by kernel_rfl) ?_ _
      have QX := HV.out.2.1.kept KT1 (by simp)
      have QZ := HV.out.2.2.2.1.kept KT1 (by simp)
      have HR9 := hidOf (HV.out.1.new KT1)
      have HK9 := hidOf (HV.out.2.2.2.2.trans KT1)
      clear hS
      have ql := lt_of_blk QX
      have qf := free_of_blk QX
      have q18 := cell_of_blk QX (i := 18) HR9.out.cells.2.2.2.2.2.2
      go_upto_region 6 with (fail)
      refine gen_world (fun Y => RB base Y { s with nx := 1, d := true } (X1.setIfInBounds 18 (.bool true)) ∧ RW 46 Y b (X1.setIfInBounds 18 (.bool true)) ∧ RW 46 Y (b + 1 + 1) rbZ ∧ Kept [] w Y) ?_ ?_
      · have k := k_cell wt1 b 18 (.bool true)
        exact ⟨(HR9.out.setd true).far1 QX (by decide) k, QX.set 18 (.bool true), QZ.kept k (nin1 (by omega)), HK9.out.then k (by simp; omega)⟩
      rintro Y ⟨YR, YX, YZ, YK⟩
      have sY := YR.size
      have oY := YR.one
      go_wp2_with (first
        | ((with_reducible change wpList _ _ _ (Oper.mk _ (Op.load 46 (Operand.tmp 2)) _ _ _ _ :: _) _ _); refine wpList_load_rw 46 isT_rb rfl (.tmp 2) rfl b rfl (X1.setIfInBounds 18 (.bool true)) sY YX ?_)
        | ((with_reducible change wpList _ _ _ (Oper.mk _ (Op.store 46 (Operand.tmp 4) _) _ _ _ _ :: _) _ _); refine wpList_store_rw 46 isT_rb rfl (.tmp 4) (.tmp 37) rfl (b + 1 + 1) (X1.setIfInBounds 18 (.bool true)) rfl rfl sY oY rbZ YZ rfl ?_))
      have kz := k_row Y (b + 1 + 1) (X1.setIfInBounds 18 (.bool true))
      obtain ⟨fs9, hu9⟩ := isT_rb.2
      refine bodyPost_ret (v := .agg (X1.setIfInBounds 18 (.bool true))) (results_cell_row Tryz.results32 _ _ (b + 1 + 1) 46 _ (0, 0) _ rfl (YZ.row _) hu9 rfl (by rw [isT_rb.1, sY])) rfl ⟨_, rfl, ?_, YK.then kz (by simp; omega)⟩
      have z := YR.far1 YZ (by decide) kz
      rw [HLK.out, show (D0 || (decide (su ≠ 0) && decide (ke = k))) = true by simp [hs0, hk0]]
      exact z
    ·
      refine wp_region_held_drew (S := fun w' => Kept [] V w') (by kernel_rfl) (Kept.refl [] V).drew (fun hS => ?_)
      refine wpAnyH_take (i := 0) (oi := { dst := some 20, op := Op.fieldAddr 46 (Operand.tmp 2) 5, type := 0, pos := "ref.go:33", after := #[], guard := none }) (v := .pointer (some ⟨b, 5, none⟩)) rfl (by kernel_rfl) (by kernel_rfl) (by kernel_rfl) (fun _ _ _ h => h) (Or.inl ⟨by rfl, fun w hSw => by obtain ⟨q1, q2, q3⟩ := HS0.out _ hSw; go_simp⟩) hS ?_
      try simp only [Act.put, List.setIfInBounds_toArray, List.set_cons_zero, List.set_cons_succ]
      refine wpAnyH_take (i := 1) (oi := { dst := some 21, op := Op.load 44 (Operand.tmp 20), type := 44, pos := "ref.go:33", after := #[{ on := 0, ground := Ground.data }], guard := none }) (v := .agg A) rfl (by kernel_rfl) (by kernel_rfl) (by kernel_rfl) (fun _ _ _ h => h) (yieldsIf_load_mid rfl 44 (.tmp 20) rfl b 5 rfl A.toList _ (fun W' kk => MID.out W' kk) u44 rfl i44) hS ?_
      try simp only [Act.put, List.setIfInBounds_toArray, List.set_cons_zero, List.set_cons_succ]
      refine wpAnyH_take (i := 2) (oi := { dst := some 22, op := Op.fieldAddr 46 (Operand.tmp 2) 3, type := 0, pos := "ref.go:33", after := #[], guard := none }) (v := .pointer (some ⟨b, 3, none⟩)) rfl (by kernel_rfl) (by kernel_rfl) (by kernel_rfl) (fun _ _ _ h => h) (Or.inl ⟨by rfl, fun w hSw => by obtain ⟨q1, q2, q3⟩ := HS0.out _ hSw; go_simp⟩) hS ?_
      try simp only [Act.put, List.setIfInBounds_toArray, List.set_cons_zero, List.set_cons_succ]
      refine wpAnyH_take (i := 3) (oi := { dst := some 23, op := Op.load 3 (Operand.tmp 22), type := 3, pos := "ref.go:33", after := #[{ on := 2, ground := Ground.data }], guard := none }) (v := .int .i64 lv) rfl (by kernel_rfl) (by kernel_rfl) (by kernel_rfl) (fun _ _ _ h => h) (Or.inl ⟨by rfl, fun w hSw => by obtain ⟨q1, q2, q3⟩ := HS0.out _ hSw; go_simp⟩) hS ?_
      try simp only [Act.put, List.setIfInBounds_toArray, List.set_cons_zero, List.set_cons_succ]
      refine wpAnyH_ready (rs := [4]) (by kernel_rfl) (by simp) ?_
      refine AllReadyH.cons (o := { dst := some 24, op := Op.call { callee := Callee.value (Operand.func 30), args := #[Operand.tmp 21, Operand.tmp 23], argTypes := #[44, 3] }, type := 25, pos := "ref.go:33", after := #[{ on := 1, ground := Ground.data }, { on := 3, ground := Ground.data }], guard := none }) rfl (fun K hK => ?_) AllReadyH.nil
      rw [if_pos (by rfl)]
      refine wp_calls 30 #[.agg A, .int .i64 lv] (by kernel_rfl) (fun v V' => v = .int .u64 su ∧ Kept [] V V') ((SUC.out _ hS).mono fun e w' hh => ⟨_, hh.1, rfl, hh.2⟩) ?_
      rintro _ wt0 ⟨rfl, KT0⟩
      try simp only [Act.put, List.setIfInBounds_toArray, List.set_cons_zero, List.set_cons_succ]
      refine hK.out _ _ (KT0) (fun hS => ?_)
      clear hK K
      refine wpAnyH_take (i := 5) (oi := { dst := some 25, op := Op.binOp BinOp.neq 25 (Operand.tmp 24) (Operand.const (Value.int IntKind.u64 0)) 25, type := 4, pos := "ref.go:33", after := #[{ on := 4, ground := Ground.data }], guard := none }) (v := .bool true) rfl (by kernel_rfl) (by kernel_rfl) (by kernel_rfl) (fun _ _ _ h => h) (Or.inl ⟨by rfl, fun w hSw => by obtain ⟨q1, q2, q3⟩ := HS0.out _ hSw; go_simp⟩) hS ?_
      try simp only [Act.put, List.setIfInBounds_toArray, List.set_cons_zero, List.set_cons_succ]
      refine wpAnyH_take (i := 6) (oi := { dst := some 26, op := Op.move (Operand.tmp 25), type := 4, pos := "ref.go:33", after := #[{ on := 5, ground := Ground.data }, { on := 4, ground := Ground.chain }], guard := none }) (v := .bool true) rfl (by kernel_rfl) (by kernel_rfl) (by kernel_rfl) (fun _ _ _ h => h) (Or.inl ⟨by rfl, fun w hSw => by obtain ⟨q1, q2, q3⟩ := HS0.out _ hSw; go_simp⟩) hS ?_
      try simp only [Act.put, List.setIfInBounds_toArray, List.set_cons_zero, List.set_cons_succ]
      refine wpAnyH_take (i := 7) (oi := { dst := some 27, op := Op.fieldAddr 46 (Operand.tmp 2) 5, type := 0, pos := "ref.go:33", after := #[{ on := 6, ground := Ground.guard }], guard := some (6, true) }) (v := .pointer (some ⟨b, 5, none⟩)) rfl (by kernel_rfl) (by kernel_rfl) (by kernel_rfl) (fun _ _ _ h => h) (Or.inl ⟨by rfl, fun w hSw => by obtain ⟨q1, q2, q3⟩ := HS0.out _ hSw; go_simp⟩) hS ?_
      try simp only [Act.put, List.setIfInBounds_toArray, List.set_cons_zero, List.set_cons_succ]
      refine wpAnyH_take (i := 8) (oi := { dst := some 28, op := Op.load 44 (Operand.tmp 27), type := 44, pos := "ref.go:33", after := #[{ on := 7, ground := Ground.data }, { on := 6, ground := Ground.guard }], guard := some (6, true) }) (v := .agg A) rfl (by kernel_rfl) (by kernel_rfl) (by kernel_rfl) (fun _ _ _ h => h) (yieldsIf_load_mid rfl 44 (.tmp 27) rfl b 5 rfl A.toList _ (fun W' kk => MID.out W' kk) u44 rfl i44) hS ?_
      try simp only [Act.put, List.setIfInBounds_toArray, List.set_cons_zero, List.set_cons_succ]
      refine wpAnyH_take (i := 9) (oi := { dst := some 29, op := Op.fieldAddr 46 (Operand.tmp 2) 3, type := 0, pos := "ref.go:33", after := #[{ on := 6, ground := Ground.guard }], guard := some (6, true) }) (v := .pointer (some ⟨b, 3, none⟩)) rfl (by kernel_rfl) (by kernel_rfl) (by kernel_rfl) (fun _ _ _ h => h) (Or.inl ⟨by rfl, fun w hSw => by obtain ⟨q1, q2, q3⟩ := HS0.out _ hSw; go_simp⟩) hS ?_
      try simp only [Act.put, List.setIfInBounds_toArray, List.set_cons_zero, List.set_cons_succ]
      refine wpAnyH_take (i := 10) (oi := { dst := some 30, op := Op.load 3 (Operand.tmp 29), type := 3, pos := "ref.go:33", after := #[{ on := 9, ground := Ground.data }, { on := 6, ground := Ground.guard }], guard := some (6, true) }) (v := .int .i64 lv) rfl (by kernel_rfl) (by kernel_rfl) (by kernel_rfl) (fun _ _ _ h => h) (Or.inl ⟨by rfl, fun w hSw => by obtain ⟨q1, q2, q3⟩ := HS0.out _ hSw; go_simp⟩) hS ?_
      try simp only [Act.put, List.setIfInBounds_toArray, List.set_cons_zero, List.set_cons_succ]
      refine wpAnyH_take (i := 12) (oi := { dst := some 32, op := Op.fieldAddr 46 (Operand.tmp 2) 1, type := 0, pos := "ref.go:33", after := #[{ on := 6, ground := Ground.guard }], guard := some (6, true) }) (v := .pointer (some ⟨b, 1, none⟩)) rfl (by kernel_rfl) (by kernel_rfl) (by kernel_rfl) (fun _ _ _ h => h) (Or.inl ⟨by rfl, fun w hSw => by obtain ⟨q1, q2, q3⟩ := HS0.out _ hSw; go_simp⟩) hS ?_
      try simp only [Act.put, List.setIfInBounds_toArray, List.set_cons_zero, List.set_cons_succ]
      refine wpAnyH_take (i := 13) (oi := { dst := some 33, op := Op.load 25 (Operand.tmp 32), type := 25, pos := "ref.go:33", after := #[{ on := 12, ground := Ground.data }, { on := 6, ground := Ground.guard }], guard := some (6, true) }) (v := .int .u64 k) rfl (by kernel_rfl) (by kernel_rfl) (by kernel_rfl) (fun _ _ _ h => h) (Or.inl ⟨by rfl, fun w hSw => by obtain ⟨q1, q2, q3⟩ := HS0.out _ hSw; go_simp⟩) hS ?_
      try simp only [Act.put, List.setIfInBounds_toArray, List.set_cons_zero, List.set_cons_succ]
      refine wpAnyH_ready (rs := [11]) (by kernel_rfl) (by simp) ?_
      refine AllReadyH.cons (o := { dst := some 31, op := Op.call { callee := Callee.value (Operand.func 65), args := #[Operand.tmp 28, Operand.tmp 30], argTypes := #[44, 3] }, type := 25, pos := "ref.go:33", after := #[{ on := 8, ground := Ground.data }, { on := 10, ground := Ground.data }, { on := 6, ground := Ground.chain }, { on := 6, ground := Ground.guard }], guard := some (6, true) }) rfl (fun K hK => ?_) AllReadyH.nil
      rw [if_pos (by rfl)]
      refine wp_calls 65 #[.agg A, .int .i64 lv] (by kernel_rfl) (fun v V' => v = .int .u64 ke ∧ Kept [] V V') ((KEY.out _ hS).mono fun e w' hh => ⟨_, hh.1, rfl, hh.2⟩) ?_
      rintro _ wt1 ⟨rfl, KT1⟩
      try simp only [Act.put, List.setIfInBounds_toArray, List.set_cons_zero, List.set_cons_succ]
      refine hK.out _ _ (KT1) (fun hS => ?_)
      clear hK K
      refine wpAnyH_take (i := 14) (oi := { dst := some 34, op := Op.binOp BinOp.eql 25 (Operand.tmp 31) (Operand.tmp 33) 25, type := 4, pos := "ref.go:33", after := #[{ on := 11, ground := Ground.data }, { on := 13, ground := Ground.data }, { on := 6, ground := Ground.guard }], guard := some (6, true) }) (v := .bool false) rfl (by kernel_rfl) (by kernel_rfl) (by kernel_rfl) (fun _ _ _ h => h) (Or.inl ⟨by rfl, fun w hSw => by obtain ⟨q1, q2, q3⟩ := HS0.out _ hSw; go_simp⟩) hS ?_
      try simp only [Act.put, List.setIfInBounds_toArray, List.set_cons_zero, List.set_cons_succ]
      refine wpAnyH_take (i := 15) (oi := { dst := some 35, op := Op.pick (Operand.tmp 26) (Operand.tmp 34) (Operand.const (Value.bool false)), type := 4, pos := "ref.go:33", after := #[{ on := 6, ground := Ground.data }, { on := 14, ground := Ground.data }], guard := none }) (v := .bool false) rfl (by kernel_rfl) (by kernel_rfl) (by kernel_rfl) (fun _ _ _ h => h) (Or.inl ⟨by rfl, fun w hSw => by obtain ⟨q1, q2, q3⟩ := HS0.out _ hSw; go_simp⟩) hS ?_
      try simp only [Act.put, List.setIfInBounds_toArray, List.set_cons_zero, List.set_cons_succ]
      refine wpAnyH_done (by kernel_rfl) ?_ _
      have QX := HV.out.2.1.kept KT1 (by simp)
      have QZ := HV.out.2.2.2.1.kept KT1 (by simp)
      have HR9 := hidOf (HV.out.1.new KT1)
      have HK9 := hidOf (HV.out.2.2.2.2.trans KT1)
      clear hS
      have YR := HR9.out
      have YX := QX
      have YZ := QZ
      have YK := HK9.out
      have sY := YR.size
      have oY := YR.one
      go_wp2_with (first
        | ((with_reducible change wpList _ _ _ (Oper.mk _ (Op.load 46 (Operand.tmp 2)) _ _ _ _ :: _) _ _); refine wpList_load_rw 46 isT_rb rfl (.tmp 2) rfl b rfl X1 sY YX ?_)
        | ((with_reducible change wpList _ _ _ (Oper.mk _ (Op.store 46 (Operand.tmp 4) _) _ _ _ _ :: _) _ _); refine wpList_store_rw 46 isT_rb rfl (.tmp 4) (.tmp 37) rfl (b + 1 + 1) X1 rfl rfl sY oY rbZ YZ rfl ?_))
      have kz := k_row wt1 (b + 1 + 1) X1
      obtain ⟨fs9, hu9⟩ := isT_rb.2
      refine bodyPost_ret (v := .agg X1) (results_cell_row Tryz.results32 _ _ (b + 1 + 1) 46 _ (0, 0) _ rfl (YZ.row _) hu9 rfl (by rw [isT_rb.1, sY])) rfl ⟨_, rfl, ?_, YK.then kz (by simp; omega)⟩
      have z := YR.far1 YZ (by decide) kz
      rw [HLK.out, show (D0 || (decide (su ≠ 0) && decide (ke = k))) = D0 by simp [hs0, hk0]]
      exact z
  by_cases h2 : c.h ≤ lv
  ·
    obtain ⟨D0, hD0⟩ : ∃ D0, D0 = true := ⟨_, rfl⟩
    have HD0 := hidOf hD0
    clear hD0
    go_upto_region 4 with (fail)
    refine gen_world (fun V => ∃ X1, RB base V { s with nx := 1, d := D0 } X1 ∧ RW 46 V b X1 ∧ RW 35 V (b + 1) M ∧ RW 46 V (b + 1 + 1) rbZ ∧ Kept [] w V) ?_ ?_
    · rw [HD0.out]
      have k4 := k_cell W b 4 (.int .i64 1)
      have z0 := HQ.out
      have R1 := (z0.1.setnx 1).far1 z0.2.1 (by decide) k4
      have B1 := z0.2.1.set 4 (.int .i64 1)
      have k5 := k_cell (W.setCell ⟨b, 4, none⟩ (.int .i64 1)) b 18 (.bool true)
      exact ⟨_, (R1.setd true).far1 B1 (by decide) k5, B1.set 18 (.bool true), (z0.2.2.1.kept k4 (nin1 (by omega))).kept k5 (nin1 (by omega)), (z0.2.2.2.1.kept k4 (nin1 (by omega))).kept k5 (nin1 (by omega)), (z0.2.2.2.2.then k4 (by simp; omega)).then k5 (by simp; omega)⟩
    rintro V ⟨X1, HV1⟩
    have HV := hidOf HV1
    clear HV1 p18 p2 p3 p4 pl pf m3 HQ
    have HLK : Hid (s.look c = { s with nx := 1, d := D0 || (decide (su ≠ 0) && decide (ke = k)) }) := hidOf (by
      obtain ⟨hlv, htl, hk, hsu, hke⟩ := HE.out
      rw [HD0.out]
      unfold Bm.look
      rw [show s.su = su from hsu.symm, show s.ke = ke from hke.symm, ← hk, ← htl, ← hlv]
      congr 1
      simp only [Bool.decide_or, Bool.decide_and]
      simp [h2])
    obtain ⟨A, hRF, lenA, MD⟩ := HV.out.1.mid
    have MID := hidOf (fun (W' : World) (kk : Kept [] V W') => (MD W' b 46 (HV.out.2.1.kept kk (by simp))).1)
    obtain ⟨fs, u44⟩ := isT_rf.2
    have i44 : (Tryz.prog.info? 44).map (·.size) = some A.toList.length := by rw [isT_rf.1, lenA]
    have HS0 : Hid (∀ W', Kept [] V W' → W'.cell? ⟨b, 1, none⟩ = some (.int .u64 k) ∧ W'.cell? ⟨b, 3, none⟩ = some (.int .i64 lv) ∧ b < W'.heap.size) := hidOf (fun W' kk => by
      have z := HV.out.2.1.kept kk (by simp)
      have ce := HV.out.1.cells
      obtain ⟨hlv, htl, hk, hsu, hke⟩ := HE.out
      exact ⟨cell_of_blk z (by rw [hk]; exact ce.2.1), cell_of_blk z (by rw [hlv]; exact ce.2.2.2.1), lt_of_blk z⟩)
    have SUC : Hid (∀ Y, Kept [] V Y → Calls Tryz.prog 30 #[.agg A, .int .i64 lv] Y fun e w' => e = .returned (.int .u64 su) ∧ Kept [] V w') := hidOf (fun Y kk => (rsucc_any base s.f A lv Y (hRF.new kk) fl.1).mono fun _ _ z => ⟨by rw [z.1, HE.out.2.2.2.1, HE.out.1]; rfl, kk.trans z.2⟩)
    have KEY : Hid (∀ Y, Kept [] V Y → Calls Tryz.prog 65 #[.agg A, .int .i64 lv] Y fun e w' => e = .returned (.int .u64 ke) ∧ Kept [] V w') := hidOf (fun Y kk => (rkey_any base s.f A lv Y (hRF.new kk) fl.2).mono fun _ _ z => ⟨by rw [z.1, HE.out.2.2.2.2, HE.out.1]; rfl, kk.trans z.2⟩)
    clear MD hRF
    by_cases hs0 : su = 0
    · have g0 : decide (su ≠ 0) = false := by simp [hs0]
      refine wp_region_held_drew (S := fun w' => Kept [] V w') (by kernel_rfl) (Kept.refl [] V).drew (fun hS => ?_)
      refine wpAnyH_take (i := 0) (oi := { dst := some 20, op := Op.fieldAddr 46 (Operand.tmp 2) 5, type := 0, pos := "ref.go:33", after := #[], guard := none }) (v := .pointer (some ⟨b, 5, none⟩)) rfl (by kernel_rfl) (by kernel_rfl) (by kernel_rfl) (fun _ _ _ h => h) (Or.inl ⟨by rfl, fun w hSw => by obtain ⟨q1, q2, q3⟩ := HS0.out _ hSw; go_simp⟩) hS ?_
      try simp only [Act.put, List.setIfInBounds_toArray, List.set_cons_zero, List.set_cons_succ]
      refine wpAnyH_take (i := 1) (oi := { dst := some 21, op := Op.load 44 (Operand.tmp 20), type := 44, pos := "ref.go:33", after := #[{ on := 0, ground := Ground.data }], guard := none }) (v := .agg A) rfl (by kernel_rfl) (by kernel_rfl) (by kernel_rfl) (fun _ _ _ h => h) (yieldsIf_load_mid rfl 44 (.tmp 20) rfl b 5 rfl A.toList _ (fun W' kk => MID.out W' kk) u44 rfl i44) hS ?_
      try simp only [Act.put, List.setIfInBounds_toArray, List.set_cons_zero, List.set_cons_succ]
      refine wpAnyH_take (i := 2) (oi := { dst := some 22, op := Op.fieldAddr 46 (Operand.tmp 2) 3, type := 0, pos := "ref.go:33", after := #[], guard := none }) (v := .pointer (some ⟨b, 3, none⟩)) rfl (by kernel_rfl) (by kernel_rfl) (by kernel_rfl) (fun _ _ _ h => h) (Or.inl ⟨by rfl, fun w hSw => by obtain ⟨q1, q2, q3⟩ := HS0.out _ hSw; go_simp⟩) hS ?_
      try simp only [Act.put, List.setIfInBounds_toArray, List.set_cons_zero, List.set_cons_succ]
      refine wpAnyH_take (i := 3) (oi := { dst := some 23, op := Op.load 3 (Operand.tmp 22), type := 3, pos := "ref.go:33", after := #[{ on := 2, ground := Ground.data }], guard := none }) (v := .int .i64 lv) rfl (by kernel_rfl) (by kernel_rfl) (by kernel_rfl) (fun _ _ _ h => h) (Or.inl ⟨by rfl, fun w hSw => by obtain ⟨q1, q2, q3⟩ := HS0.out _ hSw; go_simp⟩) hS ?_
      try simp only [Act.put, List.setIfInBounds_toArray, List.set_cons_zero, List.set_cons_succ]
      refine wpAnyH_ready (rs := [4]) (by kernel_rfl) (by simp) ?_
      refine AllReadyH.cons (o := { dst := some 24, op := Op.call { callee := Callee.value (Operand.func 30), args := #[Operand.tmp 21, Operand.tmp 23], argTypes := #[44, 3] }, type := 25, pos := "ref.go:33", after := #[{ on := 1, ground := Ground.data }, { on := 3, ground := Ground.data }], guard := none }) rfl (fun K hK => ?_) AllReadyH.nil
      rw [if_pos (by rfl)]
      refine wp_calls 30 #[.agg A, .int .i64 lv] (by kernel_rfl) (fun v V' => v = .int .u64 su ∧ Kept [] V V') ((SUC.out _ hS).mono fun e w' hh => ⟨_, hh.1, rfl, hh.2⟩) ?_
      rintro _ wt0 ⟨rfl, KT0⟩
      try simp only [Act.put, List.setIfInBounds_toArray, List.set_cons_zero, List.set_cons_succ]
      refine hK.out _ _ (KT0) (fun hS => ?_)
      clear hK K
      refine wpAnyH_take (i := 5) (oi := { dst := some 25, op := Op.binOp BinOp.neq 25 (Operand.tmp 24) (Operand.const (Value.int IntKind.u64 0)) 25, type := 4, pos := "ref.go:33", after := #[{ on := 4, ground := Ground.data }], guard := none }) (v := .bool false) rfl (by kernel_rfl) (by kernel_rfl) (by kernel_rfl) (fun _ _ _ h => h) (Or.inl ⟨by rfl, fun w hSw => by obtain ⟨q1, q2, q3⟩ := HS0.out _ hSw; go_simp⟩) hS ?_
      try simp only [Act.put, List.setIfInBounds_toArray, List.set_cons_zero, List.set_cons_succ]
      refine wpAnyH_take (i := 6) (oi := { dst := some 26, op := Op.move (Operand.tmp 25), type := 4, pos := "ref.go:33", after := #[{ on := 5, ground := Ground.data }, { on := 4, ground := Ground.chain }], guard := none }) (v := .bool false) rfl (by kernel_rfl) (by kernel_rfl) (by kernel_rfl) (fun _ _ _ h => h) (Or.inl ⟨by rfl, fun w hSw => by obtain ⟨q1, q2, q3⟩ := HS0.out _ hSw; go_simp⟩) hS ?_
      try simp only [Act.put, List.setIfInBounds_toArray, List.set_cons_zero, List.set_cons_succ]
      refine wpAnyH_take (i := 7) (oi := { dst := some 27, op := Op.fieldAddr 46 (Operand.tmp 2) 5, type := 0, pos := "ref.go:33", after := #[{ on := 6, ground := Ground.guard }], guard := some (6, true) }) (v := undef) rfl (by kernel_rfl) (by kernel_rfl) (by kernel_rfl) (fun _ _ _ h => h) (Or.inr ⟨by kernel_rfl, rfl⟩) hS ?_
      try simp only [Act.put, List.setIfInBounds_toArray, List.set_cons_zero, List.set_cons_succ]
      refine wpAnyH_take (i := 8) (oi := { dst := some 28, op := Op.load 44 (Operand.tmp 27), type := 44, pos := "ref.go:33", after := #[{ on := 7, ground := Ground.data }, { on := 6, ground := Ground.guard }], guard := some (6, true) }) (v := undef) rfl (by kernel_rfl) (by kernel_rfl) (by kernel_rfl) (fun _ _ _ h => h) (Or.inr ⟨by kernel_rfl, rfl⟩) hS ?_
      try simp only [Act.put, List.setIfInBounds_toArray, List.set_cons_zero, List.set_cons_succ]
      refine wpAnyH_take (i := 9) (oi := { dst := some 29, op := Op.fieldAddr 46 (Operand.tmp 2) 3, type := 0, pos := "ref.go:33", after := #[{ on := 6, ground := Ground.guard }], guard := some (6, true) }) (v := undef) rfl (by kernel_rfl) (by kernel_rfl) (by kernel_rfl) (fun _ _ _ h => h) (Or.inr ⟨by kernel_rfl, rfl⟩) hS ?_
      try simp only [Act.put, List.setIfInBounds_toArray, List.set_cons_zero, List.set_cons_succ]
      refine wpAnyH_take (i := 10) (oi := { dst := some 30, op := Op.load 3 (Operand.tmp 29), type := 3, pos := "ref.go:33", after := #[{ on := 9, ground := Ground.data }, { on := 6, ground := Ground.guard }], guard := some (6, true) }) (v := undef) rfl (by kernel_rfl) (by kernel_rfl) (by kernel_rfl) (fun _ _ _ h => h) (Or.inr ⟨by kernel_rfl, rfl⟩) hS ?_
      try simp only [Act.put, List.setIfInBounds_toArray, List.set_cons_zero, List.set_cons_succ]
      refine wpAnyH_take (i := 11) (oi := { dst := some 31, op := Op.call { callee := Callee.value (Operand.func 65), args := #[Operand.tmp 28, Operand.tmp 30], argTypes := #[44, 3] }, type := 25, pos := "ref.go:33", after := #[{ on := 8, ground := Ground.data }, { on := 10, ground := Ground.data }, { on := 6, ground := Ground.chain }, { on := 6, ground := Ground.guard }], guard := some (6, true) }) (v := undef) rfl (by kernel_rfl) (by kernel_rfl) (by kernel_rfl) (fun _ _ _ h => h) (Or.inr ⟨by kernel_rfl, rfl⟩) hS ?_
      try simp only [Act.put, List.setIfInBounds_toArray, List.set_cons_zero, List.set_cons_succ]
      refine wpAnyH_take (i := 12) (oi := { dst := some 32, op := Op.fieldAddr 46 (Operand.tmp 2) 1, type := 0, pos := "ref.go:33", after := #[{ on := 6, ground := Ground.guard }], guard := some (6, true) }) (v := undef) rfl (by kernel_rfl) (by kernel_rfl) (by kernel_rfl) (fun _ _ _ h => h) (Or.inr ⟨by kernel_rfl, rfl⟩) hS ?_
      try simp only [Act.put, List.setIfInBounds_toArray, List.set_cons_zero, List.set_cons_succ]
      refine wpAnyH_take (i := 13) (oi := { dst := some 33, op := Op.load 25 (Operand.tmp 32), type := 25, pos := "ref.go:33", after := #[{ on := 12, ground := Ground.data }, { on := 6, ground := Ground.guard }], guard := some (6, true) }) (v := undef) rfl (by kernel_rfl) (by kernel_rfl) (by kernel_rfl) (fun _ _ _ h => h) (Or.inr ⟨by kernel_rfl, rfl⟩) hS ?_
      try simp only [Act.put, List.setIfInBounds_toArray, List.set_cons_zero, List.set_cons_succ]
      refine wpAnyH_take (i := 14) (oi := { dst := some 34, op := Op.binOp BinOp.eql 25 (Operand.tmp 31) (Operand.tmp 33) 25, type := 4, pos := "ref.go:33", after := #[{ on := 11, ground := Ground.data }, { on := 13, ground := Ground.data }, { on := 6, ground := Ground.guard }], guard := some (6, true) }) (v := undef) rfl (by kernel_rfl) (by kernel_rfl) (by kernel_rfl) (fun _ _ _ h => h) (Or.inr ⟨by kernel_rfl, rfl⟩) hS ?_
      try simp only [Act.put, List.setIfInBounds_toArray, List.set_cons_zero, List.set_cons_succ]
      refine wpAnyH_take (i := 15) (oi := { dst := some 35, op := Op.pick (Operand.tmp 26) (Operand.tmp 34) (Operand.const (Value.bool false)), type := 4, pos := "ref.go:33", after := #[{ on := 6, ground := Ground.data }, { on := 14, ground := Ground.data }], guard := none }) (v := .bool false) rfl (by kernel_rfl) (by kernel_rfl) (by kernel_rfl) (fun _ _ _ h => h) (Or.inl ⟨by rfl, fun w hSw => by obtain ⟨q1, q2, q3⟩ := HS0.out _ hSw; go_simp⟩) hS ?_
      try simp only [Act.put, List.setIfInBounds_toArray, List.set_cons_zero, List.set_cons_succ]
      refine wpAnyH_done (by kernel_rfl) ?_ _
      have QX := HV.out.2.1.kept KT0 (by simp)
      have QZ := HV.out.2.2.2.1.kept KT0 (by simp)
      have HR9 := hidOf (HV.out.1.new KT0)
      have HK9 := hidOf (HV.out.2.2.2.2.trans KT0)
      clear hS
      have YR := HR9.out
      have YX := QX
      have YZ := QZ
      have YK := HK9.out
      have sY := YR.size
      have oY := YR.one
      go_wp2_with (first
        | ((with_reducible change wpList _ _ _ (Oper.mk _ (Op.load 46 (Operand.tmp 2)) _ _ _ _ :: _) _ _); refine wpList_load_rw 46 isT_rb rfl (.tmp 2) rfl b rfl X1 sY YX ?_)
        | ((with_reducible change wpList _ _ _ (Oper.mk _ (Op.store 46 (Operand.tmp 4) _) _ _ _ _ :: _) _ _); refine wpList_store_rw 46 isT_rb rfl (.tmp 4) (.tmp 37) rfl (b + 1 + 1) X1 rfl rfl sY oY rbZ YZ rfl ?_))
      have kz := k_row wt0 (b + 1 + 1) X1
      obtain ⟨fs9, hu9⟩ := isT_rb.2
      refine bodyPost_ret (v := .agg X1) (results_cell_row Tryz.results32 _ _ (b + 1 + 1) 46 _ (0, 0) _ rfl (YZ.row _) hu9 rfl (by rw [isT_rb.1, sY])) rfl ⟨_, rfl, ?_, YK.then kz (by simp; omega)⟩
      have z := YR.far1 YZ (by decide) kz
      rw [HLK.out, show (D0 || (decide (su ≠ 0) && decide (ke = k))) = D0 by simp [hs0]]
      exact z
    have g0 : decide (su ≠ 0) = true := by simp [hs0]
    by_cases hk0 : ke = k
    ·
      refine wp_region_held_drew (S := fun w' => Kept [] V w') (by kernel_rfl) (Kept.refl [] V).drew (fun hS => ?_)
      refine wpAnyH_take (i := 0) (oi := { dst := some 20, op := Op.fieldAddr 46 (Operand.tmp 2) 5, type := 0, pos := "ref.go:33", after := #[], guard := none }) (v := .pointer (some ⟨b, 5, none⟩)) rfl (by kernel_rfl) (by kernel_rfl) (by kernel_rfl) (fun _ _ _ h => h) (Or.inl ⟨by rfl, fun w hSw => by obtain ⟨q1, q2, q3⟩ := HS0.out _ hSw; go_simp⟩) hS ?_
      try simp only [Act.put, List.setIfInBounds_toArray, List.set_cons_zero, List.set_cons_succ]
      refine wpAnyH_take (i := 1) (oi := { dst := some 21, op := Op.load 44 (Operand.tmp 20), type := 44, pos := "ref.go:33", after := #[{ on := 0, ground := Ground.data }], guard := none }) (v := .agg A) rfl (by kernel_rfl) (by kernel_rfl) (by kernel_rfl) (fun _ _ _ h => h) (yieldsIf_load_mid rfl 44 (.tmp 20) rfl b 5 rfl A.toList _ (fun W' kk => MID.out W' kk) u44 rfl i44) hS ?_
      try simp only [Act.put, List.setIfInBounds_toArray, List.set_cons_zero, List.set_cons_succ]
      refine wpAnyH_take (i := 2) (oi := { dst := some 22, op := Op.fieldAddr 46 (Operand.tmp 2) 3, type := 0, pos := "ref.go:33", after := #[], guard := none }) (v := .pointer (some ⟨b, 3, none⟩)) rfl (by kernel_rfl) (by kernel_rfl) (by kernel_rfl) (fun _ _ _ h => h) (Or.inl ⟨by rfl, fun w hSw => by obtain ⟨q1, q2, q3⟩ := HS0.out _ hSw; go_simp⟩) hS ?_
      try simp only [Act.put, List.setIfInBounds_toArray, List.set_cons_zero, List.set_cons_succ]
      refine wpAnyH_take (i := 3) (oi := { dst := some 23, op := Op.load 3 (Operand.tmp 22), type := 3, pos := "ref.go:33", after := #[{ on := 2, ground := Ground.data }], guard := none }) (v := .int .i64 lv) rfl (by kernel_rfl) (by kernel_rfl) (by kernel_rfl) (fun _ _ _ h => h) (Or.inl ⟨by rfl, fun w hSw => by obtain ⟨q1, q2, q3⟩ := HS0.out _ hSw; go_simp⟩) hS ?_
      try simp only [Act.put, List.setIfInBounds_toArray, List.set_cons_zero, List.set_cons_succ]
      refine wpAnyH_ready (rs := [4]) (by kernel_rfl) (by simp) ?_
      refine AllReadyH.cons (o := { dst := some 24, op := Op.call { callee := Callee.value (Operand.func 30), args := #[Operand.tmp 21, Operand.tmp 23], argTypes := #[44, 3] }, type := 25, pos := "ref.go:33", after := #[{ on := 1, ground := Ground.data }, { on := 3, ground := Ground.data }], guard := none }) rfl (fun K hK => ?_) AllReadyH.nil
      rw [if_pos (by rfl)]
      refine wp_calls 30 #[.agg A, .int .i64 lv] (by kernel_rfl) (fun v V' => v = .int .u64 su ∧ Kept [] V V') ((SUC.out _ hS).mono fun e w' hh => ⟨_, hh.1, rfl, hh.2⟩) ?_
      rintro _ wt0 ⟨rfl, KT0⟩
      try simp only [Act.put, List.setIfInBounds_toArray, List.set_cons_zero, List.set_cons_succ]
      refine hK.out _ _ (KT0) (fun hS => ?_)
      clear hK K
      refine wpAnyH_take (i := 5) (oi := { dst := some 25, op := Op.binOp BinOp.neq 25 (Operand.tmp 24) (Operand.const (Value.int IntKind.u64 0)) 25, type := 4, pos := "ref.go:33", after := #[{ on := 4, ground := Ground.data }], guard := none }) (v := .bool true) rfl (by kernel_rfl) (by kernel_rfl) (by kernel_rfl) (fun _ _ _ h => h) (Or.inl ⟨by rfl, fun w hSw => by obtain ⟨q1, q2, q3⟩ := HS0.out _ hSw; go_simp⟩) hS ?_
      try simp only [Act.put, List.setIfInBounds_toArray, List.set_cons_zero, List.set_cons_succ]
      refine wpAnyH_take (i := 6) (oi := { dst := some 26, op := Op.move (Operand.tmp 25), type := 4, pos := "ref.go:33", after := #[{ on := 5, ground := Ground.data }, { on := 4, ground := Ground.chain }], guard := none }) (v := .bool true) rfl (by kernel_rfl) (by kernel_rfl) (by kernel_rfl) (fun _ _ _ h => h) (Or.inl ⟨by rfl, fun w hSw => by obtain ⟨q1, q2, q3⟩ := HS0.out _ hSw; go_simp⟩) hS ?_
      try simp only [Act.put, List.setIfInBounds_toArray, List.set_cons_zero, List.set_cons_succ]
      refine wpAnyH_take (i := 7) (oi := { dst := some 27, op := Op.fieldAddr 46 (Operand.tmp 2) 5, type := 0, pos := "ref.go:33", after := #[{ on := 6, ground := Ground.guard }], guard := some (6, true) }) (v := .pointer (some ⟨b, 5, none⟩)) rfl (by kernel_rfl) (by kernel_rfl) (by kernel_rfl) (fun _ _ _ h => h) (Or.inl ⟨by rfl, fun w hSw => by obtain ⟨q1, q2, q3⟩ := HS0.out _ hSw; go_simp⟩) hS ?_
      try simp only [Act.put, List.setIfInBounds_toArray, List.set_cons_zero, List.set_cons_succ]
      refine wpAnyH_take (i := 8) (oi := { dst := some 28, op := Op.load 44 (Operand.tmp 27), type := 44, pos := "ref.go:33", after := #[{ on := 7, ground := Ground.data }, { on := 6, ground := Ground.guard }], guard := some (6, true) }) (v := .agg A) rfl (by kernel_rfl) (by kernel_rfl) (by kernel_rfl) (fun _ _ _ h => h) (yieldsIf_load_mid rfl 44 (.tmp 27) rfl b 5 rfl A.toList _ (fun W' kk => MID.out W' kk) u44 rfl i44) hS ?_
      try simp only [Act.put, List.setIfInBounds_toArray, List.set_cons_zero, List.set_cons_succ]
      refine wpAnyH_take (i := 9) (oi := { dst := some 29, op := Op.fieldAddr 46 (Operand.tmp 2) 3, type := 0, pos := "ref.go:33", after := #[{ on := 6, ground := Ground.guard }], guard := some (6, true) }) (v := .pointer (some ⟨b, 3, none⟩)) rfl (by kernel_rfl) (by kernel_rfl) (by kernel_rfl) (fun _ _ _ h => h) (Or.inl ⟨by rfl, fun w hSw => by obtain ⟨q1, q2, q3⟩ := HS0.out _ hSw; go_simp⟩) hS ?_
      try simp only [Act.put, List.setIfInBounds_toArray, List.set_cons_zero, List.set_cons_succ]
      refine wpAnyH_take (i := 10) (oi := { dst := some 30, op := Op.load 3 (Operand.tmp 29), type := 3, pos := "ref.go:33", after := #[{ on := 9, ground := Ground.data }, { on := 6, ground := Ground.guard }], guard := some (6, true) }) (v := .int .i64 lv) rfl (by kernel_rfl) (by kernel_rfl) (by kernel_rfl) (fun _ _ _ h => h) (Or.inl ⟨by rfl, fun w hSw => by obtain ⟨q1, q2, q3⟩ := HS0.out _ hSw; go_simp⟩) hS ?_
      try simp only [Act.put, List.setIfInBounds_toArray, List.set_cons_zero, List.set_cons_succ]
      refine wpAnyH_take (i := 12) (oi := { dst := some 32, op := Op.fieldAddr 46 (Operand.tmp 2) 1, type := 0, pos := "ref.go:33", after := #[{ on := 6, ground := Ground.guard }], guard := some (6, true) }) (v := .pointer (some ⟨b, 1, none⟩)) rfl (by kernel_rfl) (by kernel_rfl) (by kernel_rfl) (fun _ _ _ h => h) (Or.inl ⟨by rfl, fun w hSw => by obtain ⟨q1, q2, q3⟩ := HS0.out _ hSw; go_simp⟩) hS ?_
      try simp only [Act.put, List.setIfInBounds_toArray, List.set_cons_zero, List.set_cons_succ]
      refine wpAnyH_take (i := 13) (oi := { dst := some 33, op := Op.load 25 (Operand.tmp 32), type := 25, pos := "ref.go:33", after := #[{ on := 12, ground := Ground.data }, { on := 6, ground := Ground.guard }], guard := some (6, true) }) (v := .int .u64 k) rfl (by kernel_rfl) (by kernel_rfl) (by kernel_rfl) (fun _ _ _ h => h) (Or.inl ⟨by rfl, fun w hSw => by obtain ⟨q1, q2, q3⟩ := HS0.out _ hSw; go_simp⟩) hS ?_
      try simp only [Act.put, List.setIfInBounds_toArray, List.set_cons_zero, List.set_cons_succ]
      refine wpAnyH_ready (rs := [11]) (by kernel_rfl) (by simp) ?_
      refine AllReadyH.cons (o := { dst := some 31, op := Op.call { callee := Callee.value (Operand.func 65), args := #[Operand.tmp 28, Operand.tmp 30], argTypes := #[44, 3] }, type := 25, pos := "ref.go:33", after := #[{ on := 8, ground := Ground.data }, { on := 10, ground := Ground.data }, { on := 6, ground := Ground.chain }, { on := 6, ground := Ground.guard }], guard := some (6, true) }) rfl (fun K hK => ?_) AllReadyH.nil
      rw [if_pos (by rfl)]
      refine wp_calls 65 #[.agg A, .int .i64 lv] (by kernel_rfl) (fun v V' => v = .int .u64 ke ∧ Kept [] V V') ((KEY.out _ hS).mono fun e w' hh => ⟨_, hh.1, rfl, hh.2⟩) ?_
      rintro _ wt1 ⟨rfl, KT1⟩
      try simp only [Act.put, List.setIfInBounds_toArray, List.set_cons_zero, List.set_cons_succ]
      refine hK.out _ _ (KT1) (fun hS => ?_)
      clear hK K
      refine wpAnyH_take (i := 14) (oi := { dst := some 34, op := Op.binOp BinOp.eql 25 (Operand.tmp 31) (Operand.tmp 33) 25, type := 4, pos := "ref.go:33", after := #[{ on := 11, ground := Ground.data }, { on := 13, ground := Ground.data }, { on := 6, ground := Ground.guard }], guard := some (6, true) }) (v := .bool true) rfl (by kernel_rfl) (by kernel_rfl) (by kernel_rfl) (fun _ _ _ h => h) (Or.inl ⟨by rfl, fun w hSw => by obtain ⟨q1, q2, q3⟩ := HS0.out _ hSw; go_simp⟩) hS ?_
      try simp only [Act.put, List.setIfInBounds_toArray, List.set_cons_zero, List.set_cons_succ]
      refine wpAnyH_take (i := 15) (oi := { dst := some 35, op := Op.pick (Operand.tmp 26) (Operand.tmp 34) (Operand.const (Value.bool false)), type := 4, pos := "ref.go:33", after := #[{ on := 6, ground := Ground.data }, { on := 14, ground := Ground.data }], guard := none }) (v := .bool true) rfl (by kernel_rfl) (by kernel_rfl) (by kernel_rfl) (fun _ _ _ h => h) (Or.inl ⟨by rfl, fun w hSw => by obtain ⟨q1, q2, q3⟩ := HS0.out _ hSw; go_simp⟩) hS ?_
      try simp only [Act.put, List.setIfInBounds_toArray, List.set_cons_zero, List.set_cons_succ]
      refine wpAnyH_done (by kernel_rfl) ?_ _
      have QX := HV.out.2.1.kept KT1 (by simp)
      have QZ := HV.out.2.2.2.1.kept KT1 (by simp)
      have HR9 := hidOf (HV.out.1.new KT1)
      have HK9 := hidOf (HV.out.2.2.2.2.trans KT1)
      clear hS
      have ql := lt_of_blk QX
      have qf := free_of_blk QX
      have q18 := cell_of_blk QX (i := 18) HR9.out.cells.2.2.2.2.2.2
      go_upto_region 6 with (fail)
      refine gen_world (fun Y => RB base Y { s with nx := 1, d := true } (X1.setIfInBounds 18 (.bool true)) ∧ RW 46 Y b (X1.setIfInBounds 18 (.bool true)) ∧ RW 46 Y (b + 1 + 1) rbZ ∧ Kept [] w Y) ?_ ?_
      · have k := k_cell wt1 b 18 (.bool true)
        exact ⟨(HR9.out.setd true).far1 QX (by decide) k, QX.set 18 (.bool true), QZ.kept k (nin1 (by omega)), HK9.out.then k (by simp; omega)⟩
      rintro Y ⟨YR, YX, YZ, YK⟩
      have sY := YR.size
      have oY := YR.one
      go_wp2_with (first
        | ((with_reducible change wpList _ _ _ (Oper.mk _ (Op.load 46 (Operand.tmp 2)) _ _ _ _ :: _) _ _); refine wpList_load_rw 46 isT_rb rfl (.tmp 2) rfl b rfl (X1.setIfInBounds 18 (.bool true)) sY YX ?_)
        | ((with_reducible change wpList _ _ _ (Oper.mk _ (Op.store 46 (Operand.tmp 4) _) _ _ _ _ :: _) _ _); refine wpList_store_rw 46 isT_rb rfl (.tmp 4) (.tmp 37) rfl (b + 1 + 1) (X1.setIfInBounds 18 (.bool true)) rfl rfl sY oY rbZ YZ rfl ?_))
      have kz := k_row Y (b + 1 + 1) (X1.setIfInBounds 18 (.bool true))
      obtain ⟨fs9, hu9⟩ := isT_rb.2
      refine bodyPost_ret (v := .agg (X1.setIfInBounds 18 (.bool true))) (results_cell_row Tryz.results32 _ _ (b + 1 + 1) 46 _ (0, 0) _ rfl (YZ.row _) hu9 rfl (by rw [isT_rb.1, sY])) rfl ⟨_, rfl, ?_, YK.then kz (by simp; omega)⟩
      have z := YR.far1 YZ (by decide) kz
      rw [HLK.out, show (D0 || (decide (su ≠ 0) && decide (ke = k))) = true by simp [hs0, hk0]]
      exact z
    ·
      refine wp_region_held_drew (S := fun w' => Kept [] V w') (by kernel_rfl) (Kept.refl [] V).drew (fun hS => ?_)
      refine wpAnyH_take (i := 0) (oi := { dst := some 20, op := Op.fieldAddr 46 (Operand.tmp 2) 5, type := 0, pos := "ref.go:33", after := #[], guard := none }) (v := .pointer (some ⟨b, 5, none⟩)) rfl (by kernel_rfl) (by kernel_rfl) (by kernel_rfl) (fun _ _ _ h => h) (Or.inl ⟨by rfl, fun w hSw => by obtain ⟨q1, q2, q3⟩ := HS0.out _ hSw; go_simp⟩) hS ?_
      try simp only [Act.put, List.setIfInBounds_toArray, List.set_cons_zero, List.set_cons_succ]
      refine wpAnyH_take (i := 1) (oi := { dst := some 21, op := Op.load 44 (Operand.tmp 20), type := 44, pos := "ref.go:33", after := #[{ on := 0, ground := Ground.data }], guard := none }) (v := .agg A) rfl (by kernel_rfl) (by kernel_rfl) (by kernel_rfl) (fun _ _ _ h => h) (yieldsIf_load_mid rfl 44 (.tmp 20) rfl b 5 rfl A.toList _ (fun W' kk => MID.out W' kk) u44 rfl i44) hS ?_
      try simp only [Act.put, List.setIfInBounds_toArray, List.set_cons_zero, List.set_cons_succ]
      refine wpAnyH_take (i := 2) (oi := { dst := some 22, op := Op.fieldAddr 46 (Operand.tmp 2) 3, type := 0, pos := "ref.go:33", after := #[], guard := none }) (v := .pointer (some ⟨b, 3, none⟩)) rfl (by kernel_rfl) (by kernel_rfl) (by kernel_rfl) (fun _ _ _ h => h) (Or.inl ⟨by rfl, fun w hSw => by obtain ⟨q1, q2, q3⟩ := HS0.out _ hSw; go_simp⟩) hS ?_
      try simp only [Act.put, List.setIfInBounds_toArray, List.set_cons_zero, List.set_cons_succ]
      refine wpAnyH_take (i := 3) (oi := { dst := some 23, op := Op.load 3 (Operand.tmp 22), type := 3, pos := "ref.go:33", after := #[{ on := 2, ground := Ground.data }], guard := none }) (v := .int .i64 lv) rfl (by kernel_rfl) (by kernel_rfl) (by kernel_rfl) (fun _ _ _ h => h) (Or.inl ⟨by rfl, fun w hSw => by obtain ⟨q1, q2, q3⟩ := HS0.out _ hSw; go_simp⟩) hS ?_
      try simp only [Act.put, List.setIfInBounds_toArray, List.set_cons_zero, List.set_cons_succ]
      refine wpAnyH_ready (rs := [4]) (by kernel_rfl) (by simp) ?_
      refine AllReadyH.cons (o := { dst := some 24, op := Op.call { callee := Callee.value (Operand.func 30), args := #[Operand.tmp 21, Operand.tmp 23], argTypes := #[44, 3] }, type := 25, pos := "ref.go:33", after := #[{ on := 1, ground := Ground.data }, { on := 3, ground := Ground.data }], guard := none }) rfl (fun K hK => ?_) AllReadyH.nil
      rw [if_pos (by rfl)]
      refine wp_calls 30 #[.agg A, .int .i64 lv] (by kernel_rfl) (fun v V' => v = .int .u64 su ∧ Kept [] V V') ((SUC.out _ hS).mono fun e w' hh => ⟨_, hh.1, rfl, hh.2⟩) ?_
      rintro _ wt0 ⟨rfl, KT0⟩
      try simp only [Act.put, List.setIfInBounds_toArray, List.set_cons_zero, List.set_cons_succ]
      refine hK.out _ _ (KT0) (fun hS => ?_)
      clear hK K
      refine wpAnyH_take (i := 5) (oi := { dst := some 25, op := Op.binOp BinOp.neq 25 (Operand.tmp 24) (Operand.const (Value.int IntKind.u64 0)) 25, type := 4, pos := "ref.go:33", after := #[{ on := 4, ground := Ground.data }], guard := none }) (v := .bool true) rfl (by kernel_rfl) (by kernel_rfl) (by kernel_rfl) (fun _ _ _ h => h) (Or.inl ⟨by rfl, fun w hSw => by obtain ⟨q1, q2, q3⟩ := HS0.out _ hSw; go_simp⟩) hS ?_
      try simp only [Act.put, List.setIfInBounds_toArray, List.set_cons_zero, List.set_cons_succ]
      refine wpAnyH_take (i := 6) (oi := { dst := some 26, op := Op.move (Operand.tmp 25), type := 4, pos := "ref.go:33", after := #[{ on := 5, ground := Ground.data }, { on := 4, ground := Ground.chain }], guard := none }) (v := .bool true) rfl (by kernel_rfl) (by kernel_rfl) (by kernel_rfl) (fun _ _ _ h => h) (Or.inl ⟨by rfl, fun w hSw => by obtain ⟨q1, q2, q3⟩ := HS0.out _ hSw; go_simp⟩) hS ?_
      try simp only [Act.put, List.setIfInBounds_toArray, List.set_cons_zero, List.set_cons_succ]
      refine wpAnyH_take (i := 7) (oi := { dst := some 27, op := Op.fieldAddr 46 (Operand.tmp 2) 5, type := 0, pos := "ref.go:33", after := #[{ on := 6, ground := Ground.guard }], guard := some (6, true) }) (v := .pointer (some ⟨b, 5, none⟩)) rfl (by kernel_rfl) (by kernel_rfl) (by kernel_rfl) (fun _ _ _ h => h) (Or.inl ⟨by rfl, fun w hSw => by obtain ⟨q1, q2, q3⟩ := HS0.out _ hSw; go_simp⟩) hS ?_
      try simp only [Act.put, List.setIfInBounds_toArray, List.set_cons_zero, List.set_cons_succ]
      refine wpAnyH_take (i := 8) (oi := { dst := some 28, op := Op.load 44 (Operand.tmp 27), type := 44, pos := "ref.go:33", after := #[{ on := 7, ground := Ground.data }, { on := 6, ground := Ground.guard }], guard := some (6, true) }) (v := .agg A) rfl (by kernel_rfl) (by kernel_rfl) (by kernel_rfl) (fun _ _ _ h => h) (yieldsIf_load_mid rfl 44 (.tmp 27) rfl b 5 rfl A.toList _ (fun W' kk => MID.out W' kk) u44 rfl i44) hS ?_
      try simp only [Act.put, List.setIfInBounds_toArray, List.set_cons_zero, List.set_cons_succ]
      refine wpAnyH_take (i := 9) (oi := { dst := some 29, op := Op.fieldAddr 46 (Operand.tmp 2) 3, type := 0, pos := "ref.go:33", after := #[{ on := 6, ground := Ground.guard }], guard := some (6, true) }) (v := .pointer (some ⟨b, 3, none⟩)) rfl (by kernel_rfl) (by kernel_rfl) (by kernel_rfl) (fun _ _ _ h => h) (Or.inl ⟨by rfl, fun w hSw => by obtain ⟨q1, q2, q3⟩ := HS0.out _ hSw; go_simp⟩) hS ?_
      try simp only [Act.put, List.setIfInBounds_toArray, List.set_cons_zero, List.set_cons_succ]
      refine wpAnyH_take (i := 10) (oi := { dst := some 30, op := Op.load 3 (Operand.tmp 29), type := 3, pos := "ref.go:33", after := #[{ on := 9, ground := Ground.data }, { on := 6, ground := Ground.guard }], guard := some (6, true) }) (v := .int .i64 lv) rfl (by kernel_rfl) (by kernel_rfl) (by kernel_rfl) (fun _ _ _ h => h) (Or.inl ⟨by rfl, fun w hSw => by obtain ⟨q1, q2, q3⟩ := HS0.out _ hSw; go_simp⟩) hS ?_
      try simp only [Act.put, List.setIfInBounds_toArray, List.set_cons_zero, List.set_cons_succ]
      refine wpAnyH_take (i := 12) (oi := { dst := some 32, op := Op.fieldAddr 46 (Operand.tmp 2) 1, type := 0, pos := "ref.go:33", after := #[{ on := 6, ground := Ground.guard }], guard := some (6, true) }) (v := .pointer (some ⟨b, 1, none⟩)) rfl (by kernel_rfl) (by kernel_rfl) (by kernel_rfl) (fun _ _ _ h => h) (Or.inl ⟨by rfl, fun w hSw => by obtain ⟨q1, q2, q3⟩ := HS0.out _ hSw; go_simp⟩) hS ?_
      try simp only [Act.put, List.setIfInBounds_toArray, List.set_cons_zero, List.set_cons_succ]
      refine wpAnyH_take (i := 13) (oi := { dst := some 33, op := Op.load 25 (Operand.tmp 32), type := 25, pos := "ref.go:33", after := #[{ on := 12, ground := Ground.data }, { on := 6, ground := Ground.guard }], guard := some (6, true) }) (v := .int .u64 k) rfl (by kernel_rfl) (by kernel_rfl) (by kernel_rfl) (fun _ _ _ h => h) (Or.inl ⟨by rfl, fun w hSw => by obtain ⟨q1, q2, q3⟩ := HS0.out _ hSw; go_simp⟩) hS ?_
      try simp only [Act.put, List.setIfInBounds_toArray, List.set_cons_zero, List.set_cons_succ]
      refine wpAnyH_ready (rs := [11]) (by kernel_rfl) (by simp) ?_
      refine AllReadyH.cons (o := { dst := some 31, op := Op.call { callee := Callee.value (Operand.func 65), args := #[Operand.tmp 28, Operand.tmp 30], argTypes := #[44, 3] }, type := 25, pos := "ref.go:33", after := #[{ on := 8, ground := Ground.data }, { on := 10, ground := Ground.data }, { on := 6, ground := Ground.chain }, { on := 6, ground := Ground.guard }], guard := some (6, true) }) rfl (fun K hK => ?_) AllReadyH.nil
      rw [if_pos (by rfl)]
      refine wp_calls 65 #[.agg A, .int .i64 lv] (by kernel_rfl) (fun v V' => v = .int .u64 ke ∧ Kept [] V V') ((KEY.out _ hS).mono fun e w' hh => ⟨_, hh.1, rfl, hh.2⟩) ?_
      rintro _ wt1 ⟨rfl, KT1⟩
      try simp only [Act.put, List.setIfInBounds_toArray, List.set_cons_zero, List.set_cons_succ]
      refine hK.out _ _ (KT1) (fun hS => ?_)
      clear hK K
      refine wpAnyH_take (i := 14) (oi := { dst := some 34, op := Op.binOp BinOp.eql 25 (Operand.tmp 31) (Operand.tmp 33) 25, type := 4, pos := "ref.go:33", after := #[{ on := 11, ground := Ground.data }, { on := 13, ground := Ground.data }, { on := 6, ground := Ground.guard }], guard := some (6, true) }) (v := .bool false) rfl (by kernel_rfl) (by kernel_rfl) (by kernel_rfl) (fun _ _ _ h => h) (Or.inl ⟨by rfl, fun w hSw => by obtain ⟨q1, q2, q3⟩ := HS0.out _ hSw; go_simp⟩) hS ?_
      try simp only [Act.put, List.setIfInBounds_toArray, List.set_cons_zero, List.set_cons_succ]
      refine wpAnyH_take (i := 15) (oi := { dst := some 35, op := Op.pick (Operand.tmp 26) (Operand.tmp 34) (Operand.const (Value.bool false)), type := 4, pos := "ref.go:33", after := #[{ on := 6, ground := Ground.data }, { on := 14, ground := Ground.data }], guard := none }) (v := .bool false) rfl (by kernel_rfl) (by kernel_rfl) (by kernel_rfl) (fun _ _ _ h => h) (Or.inl ⟨by rfl, fun w hSw => by obtain ⟨q1, q2, q3⟩ := HS0.out _ hSw; go_simp⟩) hS ?_
      try simp only [Act.put, List.setIfInBounds_toArray, List.set_cons_zero, List.set_cons_succ]
      refine wpAnyH_done (by kernel_rfl) ?_ _
      have QX := HV.out.2.1.kept KT1 (by simp)
      have QZ := HV.out.2.2.2.1.kept KT1 (by simp)
      have HR9 := hidOf (HV.out.1.new KT1)
      have HK9 := hidOf (HV.out.2.2.2.2.trans KT1)
      clear hS
      have YR := HR9.out
      have YX := QX
      have YZ := QZ
      have YK := HK9.out
      have sY := YR.size
      have oY := YR.one
      go_wp2_with (first
        | ((with_reducible change wpList _ _ _ (Oper.mk _ (Op.load 46 (Operand.tmp 2)) _ _ _ _ :: _) _ _); refine wpList_load_rw 46 isT_rb rfl (.tmp 2) rfl b rfl X1 sY YX ?_)
        | ((with_reducible change wpList _ _ _ (Oper.mk _ (Op.store 46 (Operand.tmp 4) _) _ _ _ _ :: _) _ _); refine wpList_store_rw 46 isT_rb rfl (.tmp 4) (.tmp 37) rfl (b + 1 + 1) X1 rfl rfl sY oY rbZ YZ rfl ?_))
      have kz := k_row wt1 (b + 1 + 1) X1
      obtain ⟨fs9, hu9⟩ := isT_rb.2
      refine bodyPost_ret (v := .agg X1) (results_cell_row Tryz.results32 _ _ (b + 1 + 1) 46 _ (0, 0) _ rfl (YZ.row _) hu9 rfl (by rw [isT_rb.1, sY])) rfl ⟨_, rfl, ?_, YK.then kz (by simp; omega)⟩
      have z := YR.far1 YZ (by decide) kz
      rw [HLK.out, show (D0 || (decide (su ≠ 0) && decide (ke = k))) = D0 by simp [hs0, hk0]]
      exact z
  ·
    obtain ⟨D0, hD0⟩ : ∃ D0, D0 = false := ⟨_, rfl⟩
    have HD0 := hidOf hD0
    clear hD0
    go_upto_region 4 with (fail)
    refine gen_world (fun V => ∃ X1, RB base V { s with nx := 1, d := D0 } X1 ∧ RW 46 V b X1 ∧ RW 35 V (b + 1) M ∧ RW 46 V (b + 1 + 1) rbZ ∧ Kept [] w V) ?_ ?_
    · rw [HD0.out]
      have k4 := k_cell W b 4 (.int .i64 1)
      have z0 := HQ.out
      have R1 := (z0.1.setnx 1).far1 z0.2.1 (by decide) k4
      have B1 := z0.2.1.set 4 (.int .i64 1)
      have e : ({ s with nx := 1 } : Bm) = { s with nx := 1, d := false } := by rw [← hd]
      rw [e] at R1
      exact ⟨_, R1, B1, z0.2.2.1.kept k4 (nin1 (by omega)), z0.2.2.2.1.kept k4 (nin1 (by omega)), z0.2.2.2.2.then k4 (by simp; omega)⟩
    rintro V ⟨X1, HV1⟩
    have HV := hidOf HV1
    clear HV1 p18 p2 p3 p4 pl pf m3 HQ
    have HLK : Hid (s.look c = { s with nx := 1, d := D0 || (decide (su ≠ 0) && decide (ke = k)) }) := hidOf (by
      obtain ⟨hlv, htl, hk, hsu, hke⟩ := HE.out
      rw [HD0.out]
      unfold Bm.look
      rw [show s.su = su from hsu.symm, show s.ke = ke from hke.symm, ← hk, ← htl, ← hlv]
      congr 1
      simp only [Bool.decide_or, Bool.decide_and]
      simp [h1, h2])
    obtain ⟨A, hRF, lenA, MD⟩ := HV.out.1.mid
    have MID := hidOf (fun (W' : World) (kk : Kept [] V W') => (MD W' b 46 (HV.out.2.1.kept kk (by simp))).1)
    obtain ⟨fs, u44⟩ := isT_rf.2
    have i44 : (Tryz.prog.info? 44).map (·.size) = some A.toList.length := by rw [isT_rf.1, lenA]
    have HS0 : Hid (∀ W', Kept [] V W' → W'.cell? ⟨b, 1, none⟩ = some (.int .u64 k) ∧ W'.cell? ⟨b, 3, none⟩ = some (.int .i64 lv) ∧ b < W'.heap.size) := hidOf (fun W' kk => by
      have z := HV.out.2.1.kept kk (by simp)
      have ce := HV.out.1.cells
      obtain ⟨hlv, htl, hk, hsu, hke⟩ := HE.out
      exact ⟨cell_of_blk z (by rw [hk]; exact ce.2.1), cell_of_blk z (by rw [hlv]; exact ce.2.2.2.1), lt_of_blk z⟩)
    have SUC : Hid (∀ Y, Kept [] V Y → Calls Tryz.prog 30 #[.agg A, .int .i64 lv] Y fun e w' => e = .returned (.int .u64 su) ∧ Kept [] V w') := hidOf (fun Y kk => (rsucc_any base s.f A lv Y (hRF.new kk) fl.1).mono fun _ _ z => ⟨by rw [z.1, HE.out.2.2.2.1, HE.out.1]; rfl, kk.trans z.2⟩)
    have KEY : Hid (∀ Y, Kept [] V Y → Calls Tryz.prog 65 #[.agg A, .int .i64 lv] Y fun e w' => e = .returned (.int .u64 ke) ∧ Kept [] V w') := hidOf (fun Y kk => (rkey_any base s.f A lv Y (hRF.new kk) fl.2).mono fun _ _ z => ⟨by rw [z.1, HE.out.2.2.2.2, HE.out.1]; rfl, kk.trans z.2⟩)
    clear MD hRF
    by_cases hs0 : su = 0
    · have g0 : decide (su ≠ 0) = false := by simp [hs0]
      refine wp_region_held_drew (S := fun w' => Kept [] V w') (by kernel_rfl) (Kept.refl [] V).drew (fun hS => ?_)
      refine wpAnyH_take (i := 0) (oi := { dst := some 20, op := Op.fieldAddr 46 (Operand.tmp 2) 5, type := 0, pos := "ref.go:33", after := #[], guard := none }) (v := .pointer (some ⟨b, 5, none⟩)) rfl (by kernel_rfl) (by kernel_rfl) (by kernel_rfl) (fun _ _ _ h => h) (Or.inl ⟨by rfl, fun w hSw => by obtain ⟨q1, q2, q3⟩ := HS0.out _ hSw; go_simp⟩) hS ?_
      try simp only [Act.put, List.setIfInBounds_toArray, List.set_cons_zero, List.set_cons_succ]
      refine wpAnyH_take (i := 1) (oi := { dst := some 21, op := Op.load 44 (Operand.tmp 20), type := 44, pos := "ref.go:33", after := #[{ on := 0, ground := Ground.data }], guard := none }) (v := .agg A) rfl (by kernel_rfl) (by kernel_rfl) (by kernel_rfl) (fun _ _ _ h => h) (yieldsIf_load_mid rfl 44 (.tmp 20) rfl b 5 rfl A.toList _ (fun W' kk => MID.out W' kk) u44 rfl i44) hS ?_
      try simp only [Act.put, List.setIfInBounds_toArray, List.set_cons_zero, List.set_cons_succ]
      refine wpAnyH_take (i := 2) (oi := { dst := some 22, op := Op.fieldAddr 46 (Operand.tmp 2) 3, type := 0, pos := "ref.go:33", after := #[], guard := none }) (v := .pointer (some ⟨b, 3, none⟩)) rfl (by kernel_rfl) (by kernel_rfl) (by kernel_rfl) (fun _ _ _ h => h) (Or.inl ⟨by rfl, fun w hSw => by obtain ⟨q1, q2, q3⟩ := HS0.out _ hSw; go_simp⟩) hS ?_
      try simp only [Act.put, List.setIfInBounds_toArray, List.set_cons_zero, List.set_cons_succ]
      refine wpAnyH_take (i := 3) (oi := { dst := some 23, op := Op.load 3 (Operand.tmp 22), type := 3, pos := "ref.go:33", after := #[{ on := 2, ground := Ground.data }], guard := none }) (v := .int .i64 lv) rfl (by kernel_rfl) (by kernel_rfl) (by kernel_rfl) (fun _ _ _ h => h) (Or.inl ⟨by rfl, fun w hSw => by obtain ⟨q1, q2, q3⟩ := HS0.out _ hSw; go_simp⟩) hS ?_
      try simp only [Act.put, List.setIfInBounds_toArray, List.set_cons_zero, List.set_cons_succ]
      refine wpAnyH_ready (rs := [4]) (by kernel_rfl) (by simp) ?_
      refine AllReadyH.cons (o := { dst := some 24, op := Op.call { callee := Callee.value (Operand.func 30), args := #[Operand.tmp 21, Operand.tmp 23], argTypes := #[44, 3] }, type := 25, pos := "ref.go:33", after := #[{ on := 1, ground := Ground.data }, { on := 3, ground := Ground.data }], guard := none }) rfl (fun K hK => ?_) AllReadyH.nil
      rw [if_pos (by rfl)]
      refine wp_calls 30 #[.agg A, .int .i64 lv] (by kernel_rfl) (fun v V' => v = .int .u64 su ∧ Kept [] V V') ((SUC.out _ hS).mono fun e w' hh => ⟨_, hh.1, rfl, hh.2⟩) ?_
      rintro _ wt0 ⟨rfl, KT0⟩
      try simp only [Act.put, List.setIfInBounds_toArray, List.set_cons_zero, List.set_cons_succ]
      refine hK.out _ _ (KT0) (fun hS => ?_)
      clear hK K
      refine wpAnyH_take (i := 5) (oi := { dst := some 25, op := Op.binOp BinOp.neq 25 (Operand.tmp 24) (Operand.const (Value.int IntKind.u64 0)) 25, type := 4, pos := "ref.go:33", after := #[{ on := 4, ground := Ground.data }], guard := none }) (v := .bool false) rfl (by kernel_rfl) (by kernel_rfl) (by kernel_rfl) (fun _ _ _ h => h) (Or.inl ⟨by rfl, fun w hSw => by obtain ⟨q1, q2, q3⟩ := HS0.out _ hSw; go_simp⟩) hS ?_
      try simp only [Act.put, List.setIfInBounds_toArray, List.set_cons_zero, List.set_cons_succ]
      refine wpAnyH_take (i := 6) (oi := { dst := some 26, op := Op.move (Operand.tmp 25), type := 4, pos := "ref.go:33", after := #[{ on := 5, ground := Ground.data }, { on := 4, ground := Ground.chain }], guard := none }) (v := .bool false) rfl (by kernel_rfl) (by kernel_rfl) (by kernel_rfl) (fun _ _ _ h => h) (Or.inl ⟨by rfl, fun w hSw => by obtain ⟨q1, q2, q3⟩ := HS0.out _ hSw; go_simp⟩) hS ?_
      try simp only [Act.put, List.setIfInBounds_toArray, List.set_cons_zero, List.set_cons_succ]
      refine wpAnyH_take (i := 7) (oi := { dst := some 27, op := Op.fieldAddr 46 (Operand.tmp 2) 5, type := 0, pos := "ref.go:33", after := #[{ on := 6, ground := Ground.guard }], guard := some (6, true) }) (v := undef) rfl (by kernel_rfl) (by kernel_rfl) (by kernel_rfl) (fun _ _ _ h => h) (Or.inr ⟨by kernel_rfl, rfl⟩) hS ?_
      try simp only [Act.put, List.setIfInBounds_toArray, List.set_cons_zero, List.set_cons_succ]
      refine wpAnyH_take (i := 8) (oi := { dst := some 28, op := Op.load 44 (Operand.tmp 27), type := 44, pos := "ref.go:33", after := #[{ on := 7, ground := Ground.data }, { on := 6, ground := Ground.guard }], guard := some (6, true) }) (v := undef) rfl (by kernel_rfl) (by kernel_rfl) (by kernel_rfl) (fun _ _ _ h => h) (Or.inr ⟨by kernel_rfl, rfl⟩) hS ?_
      try simp only [Act.put, List.setIfInBounds_toArray, List.set_cons_zero, List.set_cons_succ]
      refine wpAnyH_take (i := 9) (oi := { dst := some 29, op := Op.fieldAddr 46 (Operand.tmp 2) 3, type := 0, pos := "ref.go:33", after := #[{ on := 6, ground := Ground.guard }], guard := some (6, true) }) (v := undef) rfl (by kernel_rfl) (by kernel_rfl) (by kernel_rfl) (fun _ _ _ h => h) (Or.inr ⟨by kernel_rfl, rfl⟩) hS ?_
      try simp only [Act.put, List.setIfInBounds_toArray, List.set_cons_zero, List.set_cons_succ]
      refine wpAnyH_take (i := 10) (oi := { dst := some 30, op := Op.load 3 (Operand.tmp 29), type := 3, pos := "ref.go:33", after := #[{ on := 9, ground := Ground.data }, { on := 6, ground := Ground.guard }], guard := some (6, true) }) (v := undef) rfl (by kernel_rfl) (by kernel_rfl) (by kernel_rfl) (fun _ _ _ h => h) (Or.inr ⟨by kernel_rfl, rfl⟩) hS ?_
      try simp only [Act.put, List.setIfInBounds_toArray, List.set_cons_zero, List.set_cons_succ]
      refine wpAnyH_take (i := 11) (oi := { dst := some 31, op := Op.call { callee := Callee.value (Operand.func 65), args := #[Operand.tmp 28, Operand.tmp 30], argTypes := #[44, 3] }, type := 25, pos := "ref.go:33", after := #[{ on := 8, ground := Ground.data }, { on := 10, ground := Ground.data }, { on := 6, ground := Ground.chain }, { on := 6, ground := Ground.guard }], guard := some (6, true) }) (v := undef) rfl (by kernel_rfl) (by kernel_rfl) (by kernel_rfl) (fun _ _ _ h => h) (Or.inr ⟨by kernel_rfl, rfl⟩) hS ?_
      try simp only [Act.put, List.setIfInBounds_toArray, List.set_cons_zero, List.set_cons_succ]
      refine wpAnyH_take (i := 12) (oi := { dst := some 32, op := Op.fieldAddr 46 (Operand.tmp 2) 1, type := 0, pos := "ref.go:33", after := #[{ on := 6, ground := Ground.guard }], guard := some (6, true) }) (v := undef) rfl (by kernel_rfl) (by kernel_rfl) (by kernel_rfl) (fun _ _ _ h => h) (Or.inr ⟨by kernel_rfl, rfl⟩) hS ?_
      try simp only [Act.put, List.setIfInBounds_toArray, List.set_cons_zero, List.set_cons_succ]
      refine wpAnyH_take (i := 13) (oi := { dst := some 33, op := Op.load 25 (Operand.tmp 32), type := 25, pos := "ref.go:33", after := #[{ on := 12, ground := Ground.data }, { on := 6, ground := Ground.guard }], guard := some (6, true) }) (v := undef) rfl (by kernel_rfl) (by kernel_rfl) (by kernel_rfl) (fun _ _ _ h => h) (Or.inr ⟨by kernel_rfl, rfl⟩) hS ?_
      try simp only [Act.put, List.setIfInBounds_toArray, List.set_cons_zero, List.set_cons_succ]
      refine wpAnyH_take (i := 14) (oi := { dst := some 34, op := Op.binOp BinOp.eql 25 (Operand.tmp 31) (Operand.tmp 33) 25, type := 4, pos := "ref.go:33", after := #[{ on := 11, ground := Ground.data }, { on := 13, ground := Ground.data }, { on := 6, ground := Ground.guard }], guard := some (6, true) }) (v := undef) rfl (by kernel_rfl) (by kernel_rfl) (by kernel_rfl) (fun _ _ _ h => h) (Or.inr ⟨by kernel_rfl, rfl⟩) hS ?_
      try simp only [Act.put, List.setIfInBounds_toArray, List.set_cons_zero, List.set_cons_succ]
      refine wpAnyH_take (i := 15) (oi := { dst := some 35, op := Op.pick (Operand.tmp 26) (Operand.tmp 34) (Operand.const (Value.bool false)), type := 4, pos := "ref.go:33", after := #[{ on := 6, ground := Ground.data }, { on := 14, ground := Ground.data }], guard := none }) (v := .bool false) rfl (by kernel_rfl) (by kernel_rfl) (by kernel_rfl) (fun _ _ _ h => h) (Or.inl ⟨by rfl, fun w hSw => by obtain ⟨q1, q2, q3⟩ := HS0.out _ hSw; go_simp⟩) hS ?_
      try simp only [Act.put, List.setIfInBounds_toArray, List.set_cons_zero, List.set_cons_succ]
      refine wpAnyH_done (by kernel_rfl) ?_ _
      have QX := HV.out.2.1.kept KT0 (by simp)
      have QZ := HV.out.2.2.2.1.kept KT0 (by simp)
      have HR9 := hidOf (HV.out.1.new KT0)
      have HK9 := hidOf (HV.out.2.2.2.2.trans KT0)
      clear hS
      have YR := HR9.out
      have YX := QX
      have YZ := QZ
      have YK := HK9.out
      have sY := YR.size
      have oY := YR.one
      go_wp2_with (first
        | ((with_reducible change wpList _ _ _ (Oper.mk _ (Op.load 46 (Operand.tmp 2)) _ _ _ _ :: _) _ _); refine wpList_load_rw 46 isT_rb rfl (.tmp 2) rfl b rfl X1 sY YX ?_)
        | ((with_reducible change wpList _ _ _ (Oper.mk _ (Op.store 46 (Operand.tmp 4) _) _ _ _ _ :: _) _ _); refine wpList_store_rw 46 isT_rb rfl (.tmp 4) (.tmp 37) rfl (b + 1 + 1) X1 rfl rfl sY oY rbZ YZ rfl ?_))
      have kz := k_row wt0 (b + 1 + 1) X1
      obtain ⟨fs9, hu9⟩ := isT_rb.2
      refine bodyPost_ret (v := .agg X1) (results_cell_row Tryz.results32 _ _ (b + 1 + 1) 46 _ (0, 0) _ rfl (YZ.row _) hu9 rfl (by rw [isT_rb.1, sY])) rfl ⟨_, rfl, ?_, YK.then kz (by simp; omega)⟩
      have z := YR.far1 YZ (by decide) kz
      rw [HLK.out, show (D0 || (decide (su ≠ 0) && decide (ke = k))) = D0 by simp [hs0]]
      exact z
    have g0 : decide (su ≠ 0) = true := by simp [hs0]
    by_cases hk0 : ke = k
    ·
      refine wp_region_held_drew (S := fun w' => Kept [] V w') (by kernel_rfl) (Kept.refl [] V).drew (fun hS => ?_)
      refine wpAnyH_take (i := 0) (oi := { dst := some 20, op := Op.fieldAddr 46 (Operand.tmp 2) 5, type := 0, pos := "ref.go:33", after := #[], guard := none }) (v := .pointer (some ⟨b, 5, none⟩)) rfl (by kernel_rfl) (by kernel_rfl) (by kernel_rfl) (fun _ _ _ h => h) (Or.inl ⟨by rfl, fun w hSw => by obtain ⟨q1, q2, q3⟩ := HS0.out _ hSw; go_simp⟩) hS ?_
      try simp only [Act.put, List.setIfInBounds_toArray, List.set_cons_zero, List.set_cons_succ]
      refine wpAnyH_take (i := 1) (oi := { dst := some 21, op := Op.load 44 (Operand.tmp 20), type := 44, pos := "ref.go:33", after := #[{ on := 0, ground := Ground.data }], guard := none }) (v := .agg A) rfl (by kernel_rfl) (by kernel_rfl) (by kernel_rfl) (fun _ _ _ h => h) (yieldsIf_load_mid rfl 44 (.tmp 20) rfl b 5 rfl A.toList _ (fun W' kk => MID.out W' kk) u44 rfl i44) hS ?_
      try simp only [Act.put, List.setIfInBounds_toArray, List.set_cons_zero, List.set_cons_succ]
      refine wpAnyH_take (i := 2) (oi := { dst := some 22, op := Op.fieldAddr 46 (Operand.tmp 2) 3, type := 0, pos := "ref.go:33", after := #[], guard := none }) (v := .pointer (some ⟨b, 3, none⟩)) rfl (by kernel_rfl) (by kernel_rfl) (by kernel_rfl) (fun _ _ _ h => h) (Or.inl ⟨by rfl, fun w hSw => by obtain ⟨q1, q2, q3⟩ := HS0.out _ hSw; go_simp⟩) hS ?_
      try simp only [Act.put, List.setIfInBounds_toArray, List.set_cons_zero, List.set_cons_succ]
      refine wpAnyH_take (i := 3) (oi := { dst := some 23, op := Op.load 3 (Operand.tmp 22), type := 3, pos := "ref.go:33", after := #[{ on := 2, ground := Ground.data }], guard := none }) (v := .int .i64 lv) rfl (by kernel_rfl) (by kernel_rfl) (by kernel_rfl) (fun _ _ _ h => h) (Or.inl ⟨by rfl, fun w hSw => by obtain ⟨q1, q2, q3⟩ := HS0.out _ hSw; go_simp⟩) hS ?_
      try simp only [Act.put, List.setIfInBounds_toArray, List.set_cons_zero, List.set_cons_succ]
      refine wpAnyH_ready (rs := [4]) (by kernel_rfl) (by simp) ?_
      refine AllReadyH.cons (o := { dst := some 24, op := Op.call { callee := Callee.value (Operand.func 30), args := #[Operand.tmp 21, Operand.tmp 23], argTypes := #[44, 3] }, type := 25, pos := "ref.go:33", after := #[{ on := 1, ground := Ground.data }, { on := 3, ground := Ground.data }], guard := none }) rfl (fun K hK => ?_) AllReadyH.nil
      rw [if_pos (by rfl)]
      refine wp_calls 30 #[.agg A, .int .i64 lv] (by kernel_rfl) (fun v V' => v = .int .u64 su ∧ Kept [] V V') ((SUC.out _ hS).mono fun e w' hh => ⟨_, hh.1, rfl, hh.2⟩) ?_
      rintro _ wt0 ⟨rfl, KT0⟩
      try simp only [Act.put, List.setIfInBounds_toArray, List.set_cons_zero, List.set_cons_succ]
      refine hK.out _ _ (KT0) (fun hS => ?_)
      clear hK K
      refine wpAnyH_take (i := 5) (oi := { dst := some 25, op := Op.binOp BinOp.neq 25 (Operand.tmp 24) (Operand.const (Value.int IntKind.u64 0)) 25, type := 4, pos := "ref.go:33", after := #[{ on := 4, ground := Ground.data }], guard := none }) (v := .bool true) rfl (by kernel_rfl) (by kernel_rfl) (by kernel_rfl) (fun _ _ _ h => h) (Or.inl ⟨by rfl, fun w hSw => by obtain ⟨q1, q2, q3⟩ := HS0.out _ hSw; go_simp⟩) hS ?_
      try simp only [Act.put, List.setIfInBounds_toArray, List.set_cons_zero, List.set_cons_succ]
      refine wpAnyH_take (i := 6) (oi := { dst := some 26, op := Op.move (Operand.tmp 25), type := 4, pos := "ref.go:33", after := #[{ on := 5, ground := Ground.data }, { on := 4, ground := Ground.chain }], guard := none }) (v := .bool true) rfl (by kernel_rfl) (by kernel_rfl) (by kernel_rfl) (fun _ _ _ h => h) (Or.inl ⟨by rfl, fun w hSw => by obtain ⟨q1, q2, q3⟩ := HS0.out _ hSw; go_simp⟩) hS ?_
      try simp only [Act.put, List.setIfInBounds_toArray, List.set_cons_zero, List.set_cons_succ]
      refine wpAnyH_take (i := 7) (oi := { dst := some 27, op := Op.fieldAddr 46 (Operand.tmp 2) 5, type := 0, pos := "ref.go:33", after := #[{ on := 6, ground := Ground.guard }], guard := some (6, true) }) (v := .pointer (some ⟨b, 5, none⟩)) rfl (by kernel_rfl) (by kernel_rfl) (by kernel_rfl) (fun _ _ _ h => h) (Or.inl ⟨by rfl, fun w hSw => by obtain ⟨q1, q2, q3⟩ := HS0.out _ hSw; go_simp⟩) hS ?_
      try simp only [Act.put, List.setIfInBounds_toArray, List.set_cons_zero, List.set_cons_succ]
      refine wpAnyH_take (i := 8) (oi := { dst := some 28, op := Op.load 44 (Operand.tmp 27), type := 44, pos := "ref.go:33", after := #[{ on := 7, ground := Ground.data }, { on := 6, ground := Ground.guard }], guard := some (6, true) }) (v := .agg A) rfl (by kernel_rfl) (by kernel_rfl) (by kernel_rfl) (fun _ _ _ h => h) (yieldsIf_load_mid rfl 44 (.tmp 27) rfl b 5 rfl A.toList _ (fun W' kk => MID.out W' kk) u44 rfl i44) hS ?_
      try simp only [Act.put, List.setIfInBounds_toArray, List.set_cons_zero, List.set_cons_succ]
      refine wpAnyH_take (i := 9) (oi := { dst := some 29, op := Op.fieldAddr 46 (Operand.tmp 2) 3, type := 0, pos := "ref.go:33", after := #[{ on := 6, ground := Ground.guard }], guard := some (6, true) }) (v := .pointer (some ⟨b, 3, none⟩)) rfl (by kernel_rfl) (by kernel_rfl) (by kernel_rfl) (fun _ _ _ h => h) (Or.inl ⟨by rfl, fun w hSw => by obtain ⟨q1, q2, q3⟩ := HS0.out _ hSw; go_simp⟩) hS ?_
      try simp only [Act.put, List.setIfInBounds_toArray, List.set_cons_zero, List.set_cons_succ]
      refine wpAnyH_take (i := 10) (oi := { dst := some 30, op := Op.load 3 (Operand.tmp 29), type := 3, pos := "ref.go:33", after := #[{ on := 9, ground := Ground.data }, { on := 6, ground := Ground.guard }], guard := some (6, true) }) (v := .int .i64 lv) rfl (by kernel_rfl) (by kernel_rfl) (by kernel_rfl) (fun _ _ _ h => h) (Or.inl ⟨by rfl, fun w hSw => by obtain ⟨q1, q2, q3⟩ := HS0.out _ hSw; go_simp⟩) hS ?_
      try simp only [Act.put, List.setIfInBounds_toArray, List.set_cons_zero, List.set_cons_succ]
      refine wpAnyH_take (i := 12) (oi := { dst := some 32, op := Op.fieldAddr 46 (Operand.tmp 2) 1, type := 0, pos := "ref.go:33", after := #[{ on := 6, ground := Ground.guard }], guard := some (6, true) }) (v := .pointer (some ⟨b, 1, none⟩)) rfl (by kernel_rfl) (by kernel_rfl) (by kernel_rfl) (fun _ _ _ h => h) (Or.inl ⟨by rfl, fun w hSw => by obtain ⟨q1, q2, q3⟩ := HS0.out _ hSw; go_simp⟩) hS ?_
      try simp only [Act.put, List.setIfInBounds_toArray, List.set_cons_zero, List.set_cons_succ]
      refine wpAnyH_take (i := 13) (oi := { dst := some 33, op := Op.load 25 (Operand.tmp 32), type := 25, pos := "ref.go:33", after := #[{ on := 12, ground := Ground.data }, { on := 6, ground := Ground.guard }], guard := some (6, true) }) (v := .int .u64 k) rfl (by kernel_rfl) (by kernel_rfl) (by kernel_rfl) (fun _ _ _ h => h) (Or.inl ⟨by rfl, fun w hSw => by obtain ⟨q1, q2, q3⟩ := HS0.out _ hSw; go_simp⟩) hS ?_
      try simp only [Act.put, List.setIfInBounds_toArray, List.set_cons_zero, List.set_cons_succ]
      refine wpAnyH_ready (rs := [11]) (by kernel_rfl) (by simp) ?_
      refine AllReadyH.cons (o := { dst := some 31, op := Op.call { callee := Callee.value (Operand.func 65), args := #[Operand.tmp 28, Operand.tmp 30], argTypes := #[44, 3] }, type := 25, pos := "ref.go:33", after := #[{ on := 8, ground := Ground.data }, { on := 10, ground := Ground.data }, { on := 6, ground := Ground.chain }, { on := 6, ground := Ground.guard }], guard := some (6, true) }) rfl (fun K hK => ?_) AllReadyH.nil
      rw [if_pos (by rfl)]
      refine wp_calls 65 #[.agg A, .int .i64 lv] (by kernel_rfl) (fun v V' => v = .int .u64 ke ∧ Kept [] V V') ((KEY.out _ hS).mono fun e w' hh => ⟨_, hh.1, rfl, hh.2⟩) ?_
      rintro _ wt1 ⟨rfl, KT1⟩
      try simp only [Act.put, List.setIfInBounds_toArray, List.set_cons_zero, List.set_cons_succ]
      refine hK.out _ _ (KT1) (fun hS => ?_)
      clear hK K
      refine wpAnyH_take (i := 14) (oi := { dst := some 34, op := Op.binOp BinOp.eql 25 (Operand.tmp 31) (Operand.tmp 33) 25, type := 4, pos := "ref.go:33", after := #[{ on := 11, ground := Ground.data }, { on := 13, ground := Ground.data }, { on := 6, ground := Ground.guard }], guard := some (6, true) }) (v := .bool true) rfl (by kernel_rfl) (by kernel_rfl) (by kernel_rfl) (fun _ _ _ h => h) (Or.inl ⟨by rfl, fun w hSw => by obtain ⟨q1, q2, q3⟩ := HS0.out _ hSw; go_simp⟩) hS ?_
      try simp only [Act.put, List.setIfInBounds_toArray, List.set_cons_zero, List.set_cons_succ]
      refine wpAnyH_take (i := 15) (oi := { dst := some 35, op := Op.pick (Operand.tmp 26) (Operand.tmp 34) (Operand.const (Value.bool false)), type := 4, pos := "ref.go:33", after := #[{ on := 6, ground := Ground.data }, { on := 14, ground := Ground.data }], guard := none }) (v := .bool true) rfl (by kernel_rfl) (by kernel_rfl) (by kernel_rfl) (fun _ _ _ h => h) (Or.inl ⟨by rfl, fun w hSw => by obtain ⟨q1, q2, q3⟩ := HS0.out _ hSw; go_simp⟩) hS ?_
      try simp only [Act.put, List.setIfInBounds_toArray, List.set_cons_zero, List.set_cons_succ]
      refine wpAnyH_done (by kernel_rfl) ?_ _
      have QX := HV.out.2.1.kept KT1 (by simp)
      have QZ := HV.out.2.2.2.1.kept KT1 (by simp)
      have HR9 := hidOf (HV.out.1.new KT1)
      have HK9 := hidOf (HV.out.2.2.2.2.trans KT1)
      clear hS
      have ql := lt_of_blk QX
      have qf := free_of_blk QX
      have q18 := cell_of_blk QX (i := 18) HR9.out.cells.2.2.2.2.2.2
      go_upto_region 6 with (fail)
      refine gen_world (fun Y => RB base Y { s with nx := 1, d := true } (X1.setIfInBounds 18 (.bool true)) ∧ RW 46 Y b (X1.setIfInBounds 18 (.bool true)) ∧ RW 46 Y (b + 1 + 1) rbZ ∧ Kept [] w Y) ?_ ?_
      · have k := k_cell wt1 b 18 (.bool true)
        exact ⟨(HR9.out.setd true).far1 QX (by decide) k, QX.set 18 (.bool true), QZ.kept k (nin1 (by omega)), HK9.out.then k (by simp; omega)⟩
      rintro Y ⟨YR, YX, YZ, YK⟩
      have sY := YR.size
      have oY := YR.one
      go_wp2_with (first
        | ((with_reducible change wpList _ _ _ (Oper.mk _ (Op.load 46 (Operand.tmp 2)) _ _ _ _ :: _) _ _); refine wpList_load_rw 46 isT_rb rfl (.tmp 2) rfl b rfl (X1.setIfInBounds 18 (.bool true)) sY YX ?_)
        | ((with_reducible change wpList _ _ _ (Oper.mk _ (Op.store 46 (Operand.tmp 4) _) _ _ _ _ :: _) _ _); refine wpList_store_rw 46 isT_rb rfl (.tmp 4) (.tmp 37) rfl (b + 1 + 1) (X1.setIfInBounds 18 (.bool true)) rfl rfl sY oY rbZ YZ rfl ?_))
      have kz := k_row Y (b + 1 + 1) (X1.setIfInBounds 18 (.bool true))
      obtain ⟨fs9, hu9⟩ := isT_rb.2
      refine bodyPost_ret (v := .agg (X1.setIfInBounds 18 (.bool true))) (results_cell_row Tryz.results32 _ _ (b + 1 + 1) 46 _ (0, 0) _ rfl (YZ.row _) hu9 rfl (by rw [isT_rb.1, sY])) rfl ⟨_, rfl, ?_, YK.then kz (by simp; omega)⟩
      have z := YR.far1 YZ (by decide) kz
      rw [HLK.out, show (D0 || (decide (su ≠ 0) && decide (ke = k))) = true by simp [hs0, hk0]]
      exact z
    ·
      refine wp_region_held_drew (S := fun w' => Kept [] V w') (by kernel_rfl) (Kept.refl [] V).drew (fun hS => ?_)
      refine wpAnyH_take (i := 0) (oi := { dst := some 20, op := Op.fieldAddr 46 (Operand.tmp 2) 5, type := 0, pos := "ref.go:33", after := #[], guard := none }) (v := .pointer (some ⟨b, 5, none⟩)) rfl (by kernel_rfl) (by kernel_rfl) (by kernel_rfl) (fun _ _ _ h => h) (Or.inl ⟨by rfl, fun w hSw => by obtain ⟨q1, q2, q3⟩ := HS0.out _ hSw; go_simp⟩) hS ?_
      try simp only [Act.put, List.setIfInBounds_toArray, List.set_cons_zero, List.set_cons_succ]
      refine wpAnyH_take (i := 1) (oi := { dst := some 21, op := Op.load 44 (Operand.tmp 20), type := 44, pos := "ref.go:33", after := #[{ on := 0, ground := Ground.data }], guard := none }) (v := .agg A) rfl (by kernel_rfl) (by kernel_rfl) (by kernel_rfl) (fun _ _ _ h => h) (yieldsIf_load_mid rfl 44 (.tmp 20) rfl b 5 rfl A.toList _ (fun W' kk => MID.out W' kk) u44 rfl i44) hS ?_
      try simp only [Act.put, List.setIfInBounds_toArray, List.set_cons_zero, List.set_cons_succ]
      refine wpAnyH_take (i := 2) (oi := { dst := some 22, op := Op.fieldAddr 46 (Operand.tmp 2) 3, type := 0, pos := "ref.go:33", after := #[], guard := none }) (v := .pointer (some ⟨b, 3, none⟩)) rfl (by kernel_rfl) (by kernel_rfl) (by kernel_rfl) (fun _ _ _ h => h) (Or.inl ⟨by rfl, fun w hSw => by obtain ⟨q1, q2, q3⟩ := HS0.out _ hSw; go_simp⟩) hS ?_
      try simp only [Act.put, List.setIfInBounds_toArray, List.set_cons_zero, List.set_cons_succ]
      refine wpAnyH_take (i := 3) (oi := { dst := some 23, op := Op.load 3 (Operand.tmp 22), type := 3, pos := "ref.go:33", after := #[{ on := 2, ground := Ground.data }], guard := none }) (v := .int .i64 lv) rfl (by kernel_rfl) (by kernel_rfl) (by kernel_rfl) (fun _ _ _ h => h) (Or.inl ⟨by rfl, fun w hSw => by obtain ⟨q1, q2, q3⟩ := HS0.out _ hSw; go_simp⟩) hS ?_
      try simp only [Act.put, List.setIfInBounds_toArray, List.set_cons_zero, List.set_cons_succ]
      refine wpAnyH_ready (rs := [4]) (by kernel_rfl) (by simp) ?_
      refine AllReadyH.cons (o := { dst := some 24, op := Op.call { callee := Callee.value (Operand.func 30), args := #[Operand.tmp 21, Operand.tmp 23], argTypes := #[44, 3] }, type := 25, pos := "ref.go:33", after := #[{ on := 1, ground := Ground.data }, { on := 3, ground := Ground.data }], guard := none }) rfl (fun K hK => ?_) AllReadyH.nil
      rw [if_pos (by rfl)]
      refine wp_calls 30 #[.agg A, .int .i64 lv] (by kernel_rfl) (fun v V' => v = .int .u64 su ∧ Kept [] V V') ((SUC.out _ hS).mono fun e w' hh => ⟨_, hh.1, rfl, hh.2⟩) ?_
      rintro _ wt0 ⟨rfl, KT0⟩
      try simp only [Act.put, List.setIfInBounds_toArray, List.set_cons_zero, List.set_cons_succ]
      refine hK.out _ _ (KT0) (fun hS => ?_)
      clear hK K
      refine wpAnyH_take (i := 5) (oi := { dst := some 25, op := Op.binOp BinOp.neq 25 (Operand.tmp 24) (Operand.const (Value.int IntKind.u64 0)) 25, type := 4, pos := "ref.go:33", after := #[{ on := 4, ground := Ground.data }], guard := none }) (v := .bool true) rfl (by kernel_rfl) (by kernel_rfl) (by kernel_rfl) (fun _ _ _ h => h) (Or.inl ⟨by rfl, fun w hSw => by obtain ⟨q1, q2, q3⟩ := HS0.out _ hSw; go_simp⟩) hS ?_
      try simp only [Act.put, List.setIfInBounds_toArray, List.set_cons_zero, List.set_cons_succ]
      refine wpAnyH_take (i := 6) (oi := { dst := some 26, op := Op.move (Operand.tmp 25), type := 4, pos := "ref.go:33", after := #[{ on := 5, ground := Ground.data }, { on := 4, ground := Ground.chain }], guard := none }) (v := .bool true) rfl (by kernel_rfl) (by kernel_rfl) (by kernel_rfl) (fun _ _ _ h => h) (Or.inl ⟨by rfl, fun w hSw => by obtain ⟨q1, q2, q3⟩ := HS0.out _ hSw; go_simp⟩) hS ?_
      try simp only [Act.put, List.setIfInBounds_toArray, List.set_cons_zero, List.set_cons_succ]
      refine wpAnyH_take (i := 7) (oi := { dst := some 27, op := Op.fieldAddr 46 (Operand.tmp 2) 5, type := 0, pos := "ref.go:33", after := #[{ on := 6, ground := Ground.guard }], guard := some (6, true) }) (v := .pointer (some ⟨b, 5, none⟩)) rfl (by kernel_rfl) (by kernel_rfl) (by kernel_rfl) (fun _ _ _ h => h) (Or.inl ⟨by rfl, fun w hSw => by obtain ⟨q1, q2, q3⟩ := HS0.out _ hSw; go_simp⟩) hS ?_
      try simp only [Act.put, List.setIfInBounds_toArray, List.set_cons_zero, List.set_cons_succ]
      refine wpAnyH_take (i := 8) (oi := { dst := some 28, op := Op.load 44 (Operand.tmp 27), type := 44, pos := "ref.go:33", after := #[{ on := 7, ground := Ground.data }, { on := 6, ground := Ground.guard }], guard := some (6, true) }) (v := .agg A) rfl (by kernel_rfl) (by kernel_rfl) (by kernel_rfl) (fun _ _ _ h => h) (yieldsIf_load_mid rfl 44 (.tmp 27) rfl b 5 rfl A.toList _ (fun W' kk => MID.out W' kk) u44 rfl i44) hS ?_
      try simp only [Act.put, List.setIfInBounds_toArray, List.set_cons_zero, List.set_cons_succ]
      refine wpAnyH_take (i := 9) (oi := { dst := some 29, op := Op.fieldAddr 46 (Operand.tmp 2) 3, type := 0, pos := "ref.go:33", after := #[{ on := 6, ground := Ground.guard }], guard := some (6, true) }) (v := .pointer (some ⟨b, 3, none⟩)) rfl (by kernel_rfl) (by kernel_rfl) (by kernel_rfl) (fun _ _ _ h => h) (Or.inl ⟨by rfl, fun w hSw => by obtain ⟨q1, q2, q3⟩ := HS0.out _ hSw; go_simp⟩) hS ?_
      try simp only [Act.put, List.setIfInBounds_toArray, List.set_cons_zero, List.set_cons_succ]
      refine wpAnyH_take (i := 10) (oi := { dst := some 30, op := Op.load 3 (Operand.tmp 29), type := 3, pos := "ref.go:33", after := #[{ on := 9, ground := Ground.data }, { on := 6, ground := Ground.guard }], guard := some (6, true) }) (v := .int .i64 lv) rfl (by kernel_rfl) (by kernel_rfl) (by kernel_rfl) (fun _ _ _ h => h) (Or.inl ⟨by rfl, fun w hSw => by obtain ⟨q1, q2, q3⟩ := HS0.out _ hSw; go_simp⟩) hS ?_
      try simp only [Act.put, List.setIfInBounds_toArray, List.set_cons_zero, List.set_cons_succ]
      refine wpAnyH_take (i := 12) (oi := { dst := some 32, op := Op.fieldAddr 46 (Operand.tmp 2) 1, type := 0, pos := "ref.go:33", after := #[{ on := 6, ground := Ground.guard }], guard := some (6, true) }) (v := .pointer (some ⟨b, 1, none⟩)) rfl (by kernel_rfl) (by kernel_rfl) (by kernel_rfl) (fun _ _ _ h => h) (Or.inl ⟨by rfl, fun w hSw => by obtain ⟨q1, q2, q3⟩ := HS0.out _ hSw; go_simp⟩) hS ?_
      try simp only [Act.put, List.setIfInBounds_toArray, List.set_cons_zero, List.set_cons_succ]
      refine wpAnyH_take (i := 13) (oi := { dst := some 33, op := Op.load 25 (Operand.tmp 32), type := 25, pos := "ref.go:33", after := #[{ on := 12, ground := Ground.data }, { on := 6, ground := Ground.guard }], guard := some (6, true) }) (v := .int .u64 k) rfl (by kernel_rfl) (by kernel_rfl) (by kernel_rfl) (fun _ _ _ h => h) (Or.inl ⟨by rfl, fun w hSw => by obtain ⟨q1, q2, q3⟩ := HS0.out _ hSw; go_simp⟩) hS ?_
      try simp only [Act.put, List.setIfInBounds_toArray, List.set_cons_zero, List.set_cons_succ]
      refine wpAnyH_ready (rs := [11]) (by kernel_rfl) (by simp) ?_
      refine AllReadyH.cons (o := { dst := some 31, op := Op.call { callee := Callee.value (Operand.func 65), args := #[Operand.tmp 28, Operand.tmp 30], argTypes := #[44, 3] }, type := 25, pos := "ref.go:33", after := #[{ on := 8, ground := Ground.data }, { on := 10, ground := Ground.data }, { on := 6, ground := Ground.chain }, { on := 6, ground := Ground.guard }], guard := some (6, true) }) rfl (fun K hK => ?_) AllReadyH.nil
      rw [if_pos (by rfl)]
      refine wp_calls 65 #[.agg A, .int .i64 lv] (by kernel_rfl) (fun v V' => v = .int .u64 ke ∧ Kept [] V V') ((KEY.out _ hS).mono fun e w' hh => ⟨_, hh.1, rfl, hh.2⟩) ?_
      rintro _ wt1 ⟨rfl, KT1⟩
      try simp only [Act.put, List.setIfInBounds_toArray, List.set_cons_zero, List.set_cons_succ]
      refine hK.out _ _ (KT1) (fun hS => ?_)
      clear hK K
      refine wpAnyH_take (i := 14) (oi := { dst := some 34, op := Op.binOp BinOp.eql 25 (Operand.tmp 31) (Operand.tmp 33) 25, type := 4, pos := "ref.go:33", after := #[{ on := 11, ground := Ground.data }, { on := 13, ground := Ground.data }, { on := 6, ground := Ground.guard }], guard := some (6, true) }) (v := .bool false) rfl (by kernel_rfl) (by kernel_rfl) (by kernel_rfl) (fun _ _ _ h => h) (Or.inl ⟨by rfl, fun w hSw => by obtain ⟨q1, q2, q3⟩ := HS0.out _ hSw; go_simp⟩) hS ?_
      try simp only [Act.put, List.setIfInBounds_toArray, List.set_cons_zero, List.set_cons_succ]
      refine wpAnyH_take (i := 15) (oi := { dst := some 35, op := Op.pick (Operand.tmp 26) (Operand.tmp 34) (Operand.const (Value.bool false)), type := 4, pos := "ref.go:33", after := #[{ on := 6, ground := Ground.data }, { on := 14, ground := Ground.data }], guard := none }) (v := .bool false) rfl (by kernel_rfl) (by kernel_rfl) (by kernel_rfl) (fun _ _ _ h => h) (Or.inl ⟨by rfl, fun w hSw => by obtain ⟨q1, q2, q3⟩ := HS0.out _ hSw; go_simp⟩) hS ?_
      try simp only [Act.put, List.setIfInBounds_toArray, List.set_cons_zero, List.set_cons_succ]
      refine wpAnyH_done (by kernel_rfl) ?_ _
      have QX := HV.out.2.1.kept KT1 (by simp)
      have QZ := HV.out.2.2.2.1.kept KT1 (by simp)
      have HR9 := hidOf (HV.out.1.new KT1)
      have HK9 := hidOf (HV.out.2.2.2.2.trans KT1)
      clear hS
      have YR := HR9.out
      have YX := QX
      have YZ := QZ
      have YK := HK9.out
      have sY := YR.size
      have oY := YR.one
      go_wp2_with (first
        | ((with_reducible change wpList _ _ _ (Oper.mk _ (Op.load 46 (Operand.tmp 2)) _ _ _ _ :: _) _ _); refine wpList_load_rw 46 isT_rb rfl (.tmp 2) rfl b rfl X1 sY YX ?_)
        | ((with_reducible change wpList _ _ _ (Oper.mk _ (Op.store 46 (Operand.tmp 4) _) _ _ _ _ :: _) _ _); refine wpList_store_rw 46 isT_rb rfl (.tmp 4) (.tmp 37) rfl (b + 1 + 1) X1 rfl rfl sY oY rbZ YZ rfl ?_))
      have kz := k_row wt1 (b + 1 + 1) X1
      obtain ⟨fs9, hu9⟩ := isT_rb.2
      refine bodyPost_ret (v := .agg X1) (results_cell_row Tryz.results32 _ _ (b + 1 + 1) 46 _ (0, 0) _ rfl (YZ.row _) hu9 rfl (by rw [isT_rb.1, sY])) rfl ⟨_, rfl, ?_, YK.then kz (by simp; omega)⟩
      have z := YR.far1 YZ (by decide) kz
      rw [HLK.out, show (D0 || (decide (su ≠ 0) && decide (ke = k))) = D0 by simp [hs0, hk0]]
      exact z
end K
end Go.Proofs.YtkjjieklccbmoaaGreatDoor
namespace Go.Proofs.YtkjjieklccbmoaaGreatDoor
open Go.RowKit (Grown Hid Below)
open Go.Deep
namespace K
set_option maxRecDepth 100000
/-- What a step of the document's build starts from. -/
structure SB (base : Nat) (w : World) (g : Nat) (c : Cfg) (s : Bm) (X : Array Value) (gs : Gs) (cs : List Int) (cap : Nat) (cnt : Int) : Prop where
  rb : RB base w s X
  row : RowR w g cs cap
  hl : cs.length ≤ 17592186044415
  c0 : 0 ≤ cnt
  c1 : cnt < 4611686018427387904
  R : Rt c
  bi : BI c s
  wd : Wds cs
  hb : base ≤ w.heap.size
  u0 : 0 ≤ gs.u
  u1 : gs.u ≤ c.s
/-- The machine, the words in a block of their own, and the blocks. -/
structure V6 (w W : World) (b d base g : Nat) (c : Cfg) (n : Nat) (s : Bm) (cs : List Int) (cnt : Int) (a : Acc) (X M B G : Array Value) : Prop where
  r : P6 w W b X M G
  f : RB base W s X
  m : RW 35 W d B
  v : Wv w g c n cs cnt a B W
  hd : d = b + 1 ∨ b + 1 + 1 + 1 + 1 + 1 < d
theorem V6.new {w W V : World} {b d base g : Nat} {c : Cfg} {n : Nat} {s : Bm} {cs : List Int} {cnt : Int} {a : Acc} {X M B G : Array Value} (h : V6 w W b d base g c n s cs cnt a X M B G) (k : Kept [] W V) : V6 w V b d base g c n s cs cnt a X M B G :=
  ⟨h.r.new k, h.f.new k, h.m.kept k (by simp), h.v.new k, h.hd⟩
theorem V6.cell {w W : World} {b d base g : Nat} {c : Cfg} {n : Nat} {s s' : Bm} {cs : List Int} {cnt : Int} {a : Acc} {X M B G : Array Value} {i : Nat} {v : Value} (h : V6 w W b d base g c n s cs cnt a X M B G) (hf : RB base W s' (X.setIfInBounds i v)) : V6 w (W.setCell ⟨b, i, none⟩ v) b d base g c n s' cs cnt a (X.setIfInBounds i v) M B G :=
  ⟨h.r.cell i v, hf.far1 h.r.f (by decide) (k_cell W b i v), h.m.kept (k_cell W b i v) (nin1 (by have := h.hd; omega)), h.v.one h.r.f (by decide) (k_cell W b i v), h.hd⟩
theorem V6.cells {w W : World} {b d base g : Nat} {c : Cfg} {n : Nat} {s : Bm} {cs : List Int} {cnt : Int} {a : Acc} {X M B G A' : Array Value} {f' : Fm} (h : V6 w W b d base g c n s cs cnt a X M B G) (hf : RF base W f' A') : V6 w (W.setCells b 5 A'.toList) b d base g c n { s with f := f' } cs cnt a (setFrom X 5 A'.toList) M B G := by
  have k : Kept [b] W (W.setCells b 5 A'.toList) := kept_cells b A'.toList 5 (Kept.refl [b] W)
  exact ⟨h.r.cells 5 A'.toList, (h.f.setf hf).far1 h.r.f (by decide) k, h.m.kept k (nin1 (by have := h.hd; omega)), h.v.one h.r.f (by decide) k, h.hd⟩
theorem V6.nx {w W : World} {b d base g : Nat} {c : Cfg} {n : Nat} {s : Bm} {cs : List Int} {cnt : Int} {a : Acc} {X M B G : Array Value} (h : V6 w W b d base g c n s cs cnt a X M B G) (v : Nat) : V6 w (W.setCell ⟨b, 4, none⟩ (.int .i64 v)) b d base g c n { s with nx := v } cs cnt a (X.setIfInBounds 4 (.int .i64 v)) M B G := h.cell (h.f.setnx v)
theorem V6.lv {w W : World} {b d base g : Nat} {c : Cfg} {n : Nat} {s : Bm} {cs : List Int} {cnt : Int} {a : Acc} {X M B G : Array Value} (h : V6 w W b d base g c n s cs cnt a X M B G) (v : Int) : V6 w (W.setCell ⟨b, 3, none⟩ (.int .i64 v)) b d base g c n { s with lv := v } cs cnt a (X.setIfInBounds 3 (.int .i64 v)) M B G := h.cell (h.f.setlv v)
theorem V6.w {w W : World} {b d base g : Nat} {c : Cfg} {n : Nat} {s : Bm} {cs : List Int} {cnt : Int} {a : Acc} {X M B G : Array Value} (h : V6 w W b d base g c n s cs cnt a X M B G) (v : Int) : V6 w (W.setCell ⟨b, 17, none⟩ (.int .u64 v)) b d base g c n { s with w := v } cs cnt a (X.setIfInBounds 17 (.int .u64 v)) M B G := h.cell (h.f.setw v)
theorem V6.dn {w W : World} {b d base g : Nat} {c : Cfg} {n : Nat} {s : Bm} {cs : List Int} {cnt : Int} {a : Acc} {X M B G : Array Value} (h : V6 w W b d base g c n s cs cnt a X M B G) (v : Bool) : V6 w (W.setCell ⟨b, 18, none⟩ (.bool v)) b d base g c n { s with d := v } cs cnt a (X.setIfInBounds 18 (.bool v)) M B G := h.cell (h.f.setd v)
theorem V6.ret {w W : World} {b d base g : Nat} {c : Cfg} {n : Nat} {s : Bm} {cs : List Int} {cnt : Int} {a : Acc} {X M B G : Array Value} (h : V6 w W b d base g c n s cs cnt a X M B G) : T6 w (((W.drew.setRow (b + 1 + 1 + 1) X).setRow (b + 1 + 1 + 1 + 1) B).setRow (b + 1 + 1 + 1 + 1 + 1) G) b base g c n s cs cnt a X B G := by
  have kd := (Kept.refl [] W).drew
  have x0 := h.r.x.kept kd (by simp)
  have y0 := h.r.y.kept kd (by simp)
  have z0 := h.r.z.kept kd (by simp)
  have f0 := h.f.new kd
  have v0 := h.v.new kd
  have k0 := h.r.k.trans kd
  have y1 := y0.rowOther X (c := (b + 1 + 1 + 1)) (by omega)
  have z1 := z0.rowOther X (c := (b + 1 + 1 + 1)) (by omega)
  have z2 := z1.rowOther B (c := (b + 1 + 1 + 1 + 1)) (by omega)
  have f1 := f0.far1 x0 (by decide) (k_row _ _ X)
  have v1 := v0.one x0 (by decide) (k_row _ _ X)
  have f2 := f1.far1 y1 (by decide) (k_row _ _ B)
  have v2 := v1.one y1 (by decide) (k_row _ _ B)
  have o := h.r.old
  exact ⟨((x0.row X).rowOther B (by omega)).rowOther G (by omega), (y1.row B).rowOther G (by omega), z2.row G, f2.far1 z2 (by decide) (k_row _ _ G), v2.one z2 (by decide) (k_row _ _ G), ((k0.setRow (Or.inr (by omega)) X).setRow (Or.inr (by omega)) B).setRow (Or.inr (by omega)) G⟩
set_option maxHeartbeats 8000000 in
theorem rbsd_any {base g : Nat} {c : Cfg} {s : Bm} {X : Array Value} {gs : Gs} {cs : List Int} {cap : Nat} {cnt : Int} {w : World} (a : Acc) (S : SB base w g c s X gs cs cap cnt) (hd : s.d = true) :
    Calls Tryz.prog 12 #[.agg X, .agg (rmA c (some ⟨g, 0, none⟩) cs.length cap cnt a), .agg (rgA gs)] w fun e w' => ∃ Y B, e = .returned (.tuple #[.agg Y, .agg B, .agg (rgA gs)]) ∧ RB base w' s Y ∧ Wv w g c cs.length cs cnt a B w' ∧ Kept [] w w' := by
  obtain ⟨hRB, hR, hl, c0, c1, R, bi, wd, hb, u0, u1⟩ := S
  obtain ⟨n, hn⟩ : ∃ n, n = cs.length := ⟨_, rfl⟩
  obtain ⟨M, hM⟩ : ∃ M, M = rmA c (some ⟨g, 0, none⟩) cs.length cap cnt a := ⟨_, rfl⟩
  have hM15 : M.size = 15 := by rw [hM]; rfl
  have hMv : Wv w g c cs.length cs cnt a M w := ⟨g, cap, hM, Or.inl rfl, hR⟩
  rw [← hM]
  rw [← hn] at hMv ⊢
  obtain ⟨k0, k1, k2, k3, k4, k17, k18⟩ := hRB.cells
  have s19 := hRB.size
  rw [hd] at k18
  obtain ⟨b, hbw⟩ : ∃ b, b = w.heap.size := ⟨_, rfl⟩
  have ST := hidOf (show S6 w _ b base g c n s cs cnt a X M (rgA gs) from ⟨P6.start w X M (rgA gs) hbw, hRB.new (P6.start w X M (rgA gs) hbw).k, hMv.new (P6.start w X M (rgA gs) hbw).k⟩)
  clear hRB hR hl hM hn R bi wd hMv
  go_enter Tryz.func12, Tryz.ntmps12
  go_upto_region 1 with (fail)
  rw [← hbw]
  refine gen_world (fun W => S6 w W b base g c n s cs cnt a X M (rgA gs)) ST.out ?_
  have hbb : w.heap.size ≤ b := by omega
  clear ST hbw
  rintro W Q0
  have p18 := cell_of_blk Q0.r.f (i := 18) k18
  have V0 : V6 w W b (b + 1) base g c n s cs cnt a X M M (rgA gs) := ⟨Q0.r, Q0.f, Q0.r.m, Q0.v, Or.inl rfl⟩
  clear Q0
  go_upto_region 2 with (fail)
  refine wp_ret3 isT_rb isT_rm isT_rg (by kernel_rfl) (by kernel_rfl) (by kernel_rfl) (fun _ _ _ _ _ h => h) b (b + 1) (b + 1 + 1) (b + 1 + 1 + 1) (b + 1 + 1 + 1 + 1) (b + 1 + 1 + 1 + 1 + 1) X M (rgA gs) rbZ rmZ rgZ V0.f.size V0.v.size rfl V0.f.one V0.v.allOne (rg_one _) rfl rfl rfl V0.r.f V0.m V0.r.g V0.r.x V0.r.y V0.r.z (by omega) (by have := V0.hd; omega) (by omega) (by omega) rfl rfl rfl rfl rfl rfl rfl rfl rfl ?_
  simp only [Act.put, List.setIfInBounds_toArray, List.set_cons_zero, List.set_cons_succ]
  have EE := V0.ret
  have sx := V0.f.size
  have sm := V0.v.size
  go_wp2
  refine bodyPost_ret (v := .tuple #[.agg X, .agg M, .agg (rgA gs)]) (results_rw3 Tryz.results12 isT_rb isT_rm isT_rg _ _ (b + 1 + 1 + 1) (b + 1 + 1 + 1 + 1) (b + 1 + 1 + 1 + 1 + 1) X M (rgA gs) sx sm rfl rfl rfl rfl EE.x EE.y EE.z) rfl ⟨_, _, rfl, EE.f, EE.v, EE.k⟩
set_option maxHeartbeats 8000000 in
theorem rbs1_any {base g : Nat} {c : Cfg} {s : Bm} {X : Array Value} {gs : Gs} {cs : List Int} {cap : Nat} {cnt : Int} {w : World} (a : Acc) (S : SB base w g c s X gs cs cap cnt) (hd : s.d = false) (hnx : s.nx = 1) :
    Calls Tryz.prog 12 #[.agg X, .agg (rmA c (some ⟨g, 0, none⟩) cs.length cap cnt a), .agg (rgA gs)] w fun e w' => ∃ Y B, e = .returned (.tuple #[.agg Y, .agg B, .agg (rgA gs)]) ∧ RB base w' { s with w := s.own c cs, nx := if s.own c cs = s.su then 3 else 2, d := mkB (s.own c cs) } Y ∧ Wv w g c cs.length cs (cnt + 1) (acV cs 1 (clV' c (ixV s.h) (6 + s.lv)) (plainV s.h) 0 0) B w' ∧ Kept [] w w' := by
  obtain ⟨hRB, hR, hl, c0, c1, R, bi, wd, hb, u0, u1⟩ := S
  have HR1 := hidOf R
  have hW := bi.hW
  have HC := hidOf (fun (W : World) (k : Kept [] w W) => rloadW c g cs cap cnt a s.h (6 + s.lv) W (hR.kept k (by simp)) hl hW c0 c1)
  have WO := fd_word (c := c) wd (ixV s.h) (6 + s.lv)
  obtain ⟨O, hO⟩ : ∃ O, O = fd c cs (ixV s.h) (6 + s.lv) := ⟨_, rfl⟩
  rw [← hO] at HC WO
  have HO := hidOf hO
  clear hO
  generalize acV cs 1 (clV' c (ixV s.h) (6 + s.lv)) (plainV s.h) 0 0 = AC at HC ⊢
  obtain ⟨QS, hQS⟩ : ∃ Q : Bm, Q = { s with w := s.own c cs, nx := if s.own c cs = s.su then 3 else 2, d := mkB (s.own c cs) } := ⟨_, rfl⟩
  rw [← hQS]
  have HQS := hidOf hQS
  clear hQS
  obtain ⟨n, hn⟩ : ∃ n, n = cs.length := ⟨_, rfl⟩
  obtain ⟨M, hM⟩ : ∃ M, M = rmA c (some ⟨g, 0, none⟩) cs.length cap cnt a := ⟨_, rfl⟩
  have hM15 : M.size = 15 := by rw [hM]; rfl
  have hMv : Wv w g c cs.length cs cnt a M w := ⟨g, cap, hM, Or.inl rfl, hR⟩
  rw [← hM] at HC ⊢
  rw [← hn] at HC hMv ⊢
  obtain ⟨k0, k1, k2, k3, k4, k17, k18⟩ := hRB.cells
  have s19 := hRB.size
  rw [hd] at k18
  rw [hnx] at k4
  obtain ⟨b, hbw⟩ : ∃ b, b = w.heap.size := ⟨_, rfl⟩
  have ST := hidOf (show S6 w _ b base g c n s cs cnt a X M (rgA gs) from ⟨P6.start w X M (rgA gs) hbw, hRB.new (P6.start w X M (rgA gs) hbw).k, hMv.new (P6.start w X M (rgA gs) hbw).k⟩)
  clear hR hl hM hn R wd hMv
  go_enter Tryz.func12, Tryz.ntmps12
  go_upto_region 1 with (fail)
  rw [← hbw]
  refine gen_world (fun W => S6 w W b base g c n s cs cnt a X M (rgA gs)) ST.out ?_
  have hbb : w.heap.size ≤ b := by omega
  clear ST hbw hRB
  rintro W Q0
  have p18 := cell_of_blk Q0.r.f (i := 18) k18
  have p4 := cell_of_blk Q0.r.f (i := 4) k4
  have p3 := cell_of_blk Q0.r.f (i := 3) k3
  have HQ := hidOf Q0
  clear Q0
  obtain ⟨A, hRF, lenA, MD⟩ := HQ.out.f.mid
  have MF := (MD W b 46 HQ.out.r.f).1
  obtain ⟨fs, u44⟩ := isT_rf.2
  have i44 : (Tryz.prog.info? 44).map (·.size) = some A.toList.length := by rw [isT_rf.1, lenA]
  have SUC : Hid (∀ Y, Kept [] W Y → Calls Tryz.prog 30 #[.agg A, .int .i64 s.lv] Y fun e w' => e = .returned (.int .u64 s.su) ∧ Kept [] W w') := hidOf (fun Y kk => (rsucc_any base s.f A s.lv Y (hRF.new kk) (by have := bi.fi.ss; have := bi.fi.dn; have := HN_eq HR1.out; have := HR1.out.h1; omega)).mono fun _ _ z => ⟨z.1, kk.trans z.2⟩)
  obtain ⟨su, hsu⟩ : ∃ x, x = s.su := ⟨_, rfl⟩
  obtain ⟨lv, hlv⟩ : ∃ x, x = s.lv := ⟨_, rfl⟩
  have l1 : 1 ≤ lv := by rw [hlv]; exact bi.l1
  have l6 : lv ≤ 6 := by have := bi.l2; have := HR1.out.h1; omega
  rw [← hsu, ← hlv] at SUC
  rw [← hlv] at p3
  have HE := hidOf (And.intro hsu hlv)
  clear MD hRF hsu hlv
  go_wp2_with (first | ((with_reducible change wpList _ _ _ (Oper.mk _ (Op.load 44 (Operand.tmp 24)) _ _ _ _ :: _) _ _); refine wpList_load_mid rfl 44 (.tmp 24) rfl b 5 rfl A.toList _ MF u44 rfl i44 ?_))
  refine (SUC.out _ (Kept.refl _ _)).mono ?_
  rintro e w1 ⟨rfl, K1⟩
  have Q1 := hidOf (HQ.out.new K1)
  clear SUC MF u44 i44 lenA K1 HQ p18 p4 p3
  have p18 := cell_of_blk Q1.out.r.f (i := 18) k18
  have p4 := cell_of_blk Q1.out.r.f (i := 4) k4
  have p3 := cell_of_blk Q1.out.r.f (i := 3) k3
  rw [← HE.out.2] at p3
  have p0 := cell_of_blk Q1.out.r.f (i := 0) k0
  have QM := Q1.out.r.m
  rw [← HE.out.2] at HC
  go_wp2_with (first
    | ((with_reducible change wpList _ _ _ (Oper.mk _ (Op.load 35 (Operand.tmp 4)) _ _ _ _ :: _) _ _); refine wpList_load_rw 35 isT_rm rfl (.tmp 4) rfl (b + 1) rfl M hM15 QM ?_))
  refine (HC.out _ Q1.out.r.k).mono ?_
  rintro e w2 ⟨B, rfl, WV', K2⟩
  clear HC QM
  have WV := WV'.old (w := w) (by have := Q1.out.r.k.size; omega)
  have sB := WV.size
  have oB := WV.allOne
  have V1 := hidOf (And.intro (Q1.out.new K2) WV)
  obtain ⟨d, hdw⟩ : ∃ d, d = w2.heap.size := ⟨_, rfl⟩
  clear Q1 WV WV' p18 p4 p3 p0
  go_upto_region 13 with (first
    | ((with_reducible change wpList _ _ _ (Oper.mk _ (Op.store 35 (Operand.tmp 13) _) _ _ _ _ :: _) _ _); refine wpList_store_rw 35 isT_rm rfl (.tmp 13) (.tmp 62) rfl w2.heap.size B rfl rfl sB oB rmZ (RW.new 35 w2 rmZ) rfl ?_))
  rw [← hdw]
  refine gen_world (fun V => V6 w V b d base g c n s cs (cnt + 1) AC X M B (rgA gs)) ?_ ?_
  · have kk := ((Kept.refl [] w2).alloc (.cells rmZ 35)).setRow (b := d) (Or.inr (by omega)) B
    have zz := V1.out.1.r.z.lt
    refine ⟨V1.out.1.r.new kk, V1.out.1.f.new kk, ?_, V1.out.2.new kk, Or.inr (by omega)⟩
    rw [hdw]; exact (RW.new 35 w2 rmZ).row _
  clear V1 hdw K2
  rintro V Q3
  have p17 := cell_of_blk Q3.r.f (i := 17) k17
  have p18 := cell_of_blk Q3.r.f (i := 18) k18
  have p4 := cell_of_blk Q3.r.f (i := 4) k4
  have pf := free_of_blk Q3.r.f
  have pl := lt_of_blk Q3.r.f
  have HV := hidOf Q3
  clear Q3
  by_cases hE : O = su
  ·
    subst hE
    have HV2 := hidOf (((HV.out.w O).nx 2).nx 3)
    go_upto_region 17 with (fail)
    refine gen_world (fun V => V6 w V b d base g c n { s with w := O, nx := 3 } cs (cnt + 1) AC (((X.setIfInBounds 17 (.int .u64 O)).setIfInBounds 4 (.int .i64 ((2 : Nat) : Int))).setIfInBounds 4 (.int .i64 ((3 : Nat) : Int))) M B (rgA gs)) HV2.out ?_
    clear HV HV2 p17 p18 p4 pf pl
    rintro V4 Q4
    have k18' : (((X.setIfInBounds 17 (.int .u64 O)).setIfInBounds 4 (.int .i64 ((2 : Nat) : Int))).setIfInBounds 4 (.int .i64 ((3 : Nat) : Int)))[18]? = some (.bool false) := by rw [← k18]; simp
    generalize ((X.setIfInBounds 17 (.int .u64 O)).setIfInBounds 4 (.int .i64 ((2 : Nat) : Int))).setIfInBounds 4 (.int .i64 ((3 : Nat) : Int)) = XX at Q4 k18' ⊢
    have HV4 := hidOf Q4
    clear Q4
    go_wp2_with fail
    refine (rmarked_any O _ WO.1 WO.2).mono ?_
    rintro e w5 ⟨rfl, K5⟩
    have Q5 := HV4.out.new K5
    have p18 := cell_of_blk Q5.r.f (i := 18) k18'
    have pf := free_of_blk Q5.r.f
    have pl := lt_of_blk Q5.r.f
    have HV6 := hidOf (Q5.dn (mkB O))
    clear Q5 HV4 K5
    go_upto_region 18 with (fail)
    refine gen_world (fun V => V6 w V b d base g c n { s with w := O, nx := 3, d := mkB O } cs (cnt + 1) AC (XX.setIfInBounds 18 (.bool (mkB O))) M B (rgA gs)) HV6.out ?_
    clear HV6 p18 pf pl
    rintro V7 Q7
    generalize XX.setIfInBounds 18 (.bool (mkB O)) = Y at Q7 ⊢
    go_upto_region 18 with (fail)
    refine wp_ret3 isT_rb isT_rm isT_rg (by kernel_rfl) (by kernel_rfl) (by kernel_rfl) (fun _ _ _ _ _ h => h) b d (b + 1 + 1) (b + 1 + 1 + 1) (b + 1 + 1 + 1 + 1) (b + 1 + 1 + 1 + 1 + 1) Y B (rgA gs) rbZ rmZ rgZ Q7.f.size Q7.v.size rfl Q7.f.one Q7.v.allOne (rg_one _) rfl rfl rfl Q7.r.f Q7.m Q7.r.g Q7.r.x Q7.r.y Q7.r.z (by omega) (by have := Q7.hd; omega) (by omega) (by omega) rfl rfl rfl rfl rfl rfl rfl rfl rfl ?_
    simp only [Act.put, List.setIfInBounds_toArray, List.set_cons_zero, List.set_cons_succ]
    have EE := Q7.ret
    have sx := Q7.f.size
    have sm := Q7.v.size
    go_wp2
    refine bodyPost_ret (v := .tuple #[.agg Y, .agg B, .agg (rgA gs)]) (results_rw3 Tryz.results12 isT_rb isT_rm isT_rg _ _ (b + 1 + 1 + 1) (b + 1 + 1 + 1 + 1) (b + 1 + 1 + 1 + 1 + 1) Y B (rgA gs) sx sm rfl rfl rfl rfl EE.x EE.y EE.z) rfl ⟨_, _, rfl, (by have e1 : s.own c cs = O := HO.out.symm; have e2 : s.su = O := HE.out.1.symm; rw [HQS.out, e1, e2, if_pos rfl]; exact EE.f), EE.v, EE.k⟩
  ·
    have HOE := hidOf hE
    have HV2 := hidOf ((HV.out.w O).nx 2)
    go_upto_region 17 with (fail)
    refine gen_world (fun V => V6 w V b d base g c n { s with w := O, nx := 2 } cs (cnt + 1) AC ((X.setIfInBounds 17 (.int .u64 O)).setIfInBounds 4 (.int .i64 ((2 : Nat) : Int))) M B (rgA gs)) HV2.out ?_
    clear HV HV2 p17 p18 p4 pf pl
    rintro V4 Q4
    have k18' : ((X.setIfInBounds 17 (.int .u64 O)).setIfInBounds 4 (.int .i64 ((2 : Nat) : Int)))[18]? = some (.bool false) := by rw [← k18]; simp
    generalize (X.setIfInBounds 17 (.int .u64 O)).setIfInBounds 4 (.int .i64 ((2 : Nat) : Int)) = XX at Q4 k18' ⊢
    have HV4 := hidOf Q4
    clear Q4
    go_wp2_with fail
    refine (rmarked_any O _ WO.1 WO.2).mono ?_
    rintro e w5 ⟨rfl, K5⟩
    have Q5 := HV4.out.new K5
    have p18 := cell_of_blk Q5.r.f (i := 18) k18'
    have pf := free_of_blk Q5.r.f
    have pl := lt_of_blk Q5.r.f
    have HV6 := hidOf (Q5.dn (mkB O))
    clear Q5 HV4 K5
    go_upto_region 18 with (fail)
    refine gen_world (fun V => V6 w V b d base g c n { s with w := O, nx := 2, d := mkB O } cs (cnt + 1) AC (XX.setIfInBounds 18 (.bool (mkB O))) M B (rgA gs)) HV6.out ?_
    clear HV6 p18 pf pl
    rintro V7 Q7
    generalize XX.setIfInBounds 18 (.bool (mkB O)) = Y at Q7 ⊢
    go_upto_region 18 with (fail)
    refine wp_ret3 isT_rb isT_rm isT_rg (by kernel_rfl) (by kernel_rfl) (by kernel_rfl) (fun _ _ _ _ _ h => h) b d (b + 1 + 1) (b + 1 + 1 + 1) (b + 1 + 1 + 1 + 1) (b + 1 + 1 + 1 + 1 + 1) Y B (rgA gs) rbZ rmZ rgZ Q7.f.size Q7.v.size rfl Q7.f.one Q7.v.allOne (rg_one _) rfl rfl rfl Q7.r.f Q7.m Q7.r.g Q7.r.x Q7.r.y Q7.r.z (by omega) (by have := Q7.hd; omega) (by omega) (by omega) rfl rfl rfl rfl rfl rfl rfl rfl rfl ?_
    simp only [Act.put, List.setIfInBounds_toArray, List.set_cons_zero, List.set_cons_succ]
    have EE := Q7.ret
    have sx := Q7.f.size
    have sm := Q7.v.size
    go_wp2
    refine bodyPost_ret (v := .tuple #[.agg Y, .agg B, .agg (rgA gs)]) (results_rw3 Tryz.results12 isT_rb isT_rm isT_rg _ _ (b + 1 + 1 + 1) (b + 1 + 1 + 1 + 1) (b + 1 + 1 + 1 + 1 + 1) Y B (rgA gs) sx sm rfl rfl rfl rfl EE.x EE.y EE.z) rfl ⟨_, _, rfl, (by have e1 : s.own c cs = O := HO.out.symm; have e2 : s.su = su := HE.out.1.symm; rw [HQS.out, e1, e2, if_neg HOE.out]; exact EE.f), EE.v, EE.k⟩
set_option maxHeartbeats 8000000 in
theorem rbs2_any {base g : Nat} {c : Cfg} {s : Bm} {X : Array Value} {gs : Gs} {cs : List Int} {cap : Nat} {cnt : Int} {w : World} (a : Acc) (S : SB base w g c s X gs cs cap cnt) (hd : s.d = false) (hnx : s.nx = 2) :
    Calls Tryz.prog 12 #[.agg X, .agg (rmA c (some ⟨g, 0, none⟩) cs.length cap cnt a), .agg (rgA gs)] w fun e w' => ∃ Y B, e = .returned (.tuple #[.agg Y, .agg B, .agg (rgA gs)]) ∧ RB base w' { s with nx := if (s.aS c cs).d = true then 3 else 1 } Y ∧ Wv w g c cs.length (clV cs 3 (clV' c (ixV s.h) (6 + s.lv)) s.w s.su) (cnt + 1) (s.aS c cs) B w' ∧ Kept [] w w' := by
  obtain ⟨hRB, hR, hl, c0, c1, R, bi, wd, hb, u0, u1⟩ := S
  have HR1 := hidOf R
  have hW := bi.hW
  have HC := hidOf (fun (W : World) (k : Kept [] w W) => rswapW c g cs cap cnt a s.h (6 + s.lv) s.w s.su W (hR.kept k (by simp)) hl hW c0 c1)
  have HI0 : ∃ IS, IS = (s.aS c cs).d := ⟨_, rfl⟩
  obtain ⟨IS, hIS⟩ := HI0
  rw [show (acV cs 3 (clV' c (ixV s.h) (6 + s.lv)) (plainV s.h) s.w s.su).d = IS from hIS.symm] at HC
  rw [← hIS]
  rw [show acV cs 3 (clV' c (ixV s.h) (6 + s.lv)) (plainV s.h) s.w s.su = s.aS c cs from rfl] at HC
  clear hIS
  generalize s.aS c cs = AC at HC ⊢
  generalize clV cs 3 (clV' c (ixV s.h) (6 + s.lv)) s.w s.su = CS at HC ⊢
  obtain ⟨QS, hQS⟩ : ∃ Q : Bm, Q = { s with nx := if IS = true then 3 else 1 } := ⟨_, rfl⟩
  rw [← hQS]
  have HQS := hidOf hQS
  clear hQS
  obtain ⟨n, hn⟩ : ∃ n, n = cs.length := ⟨_, rfl⟩
  obtain ⟨M, hM⟩ : ∃ M, M = rmA c (some ⟨g, 0, none⟩) cs.length cap cnt a := ⟨_, rfl⟩
  have hM15 : M.size = 15 := by rw [hM]; rfl
  have hMv : Wv w g c cs.length cs cnt a M w := ⟨g, cap, hM, Or.inl rfl, hR⟩
  rw [← hM] at HC ⊢
  rw [← hn] at HC hMv ⊢
  obtain ⟨k0, k1, k2, k3, k4, k17, k18⟩ := hRB.cells
  have s19 := hRB.size
  rw [hd] at k18
  rw [hnx] at k4
  obtain ⟨b, hbw⟩ : ∃ b, b = w.heap.size := ⟨_, rfl⟩
  have ST := hidOf (show S6 w _ b base g c n s cs cnt a X M (rgA gs) from ⟨P6.start w X M (rgA gs) hbw, hRB.new (P6.start w X M (rgA gs) hbw).k, hMv.new (P6.start w X M (rgA gs) hbw).k⟩)
  clear hR hl hM hn R wd hMv
  go_enter Tryz.func12, Tryz.ntmps12
  go_upto_region 1 with (fail)
  rw [← hbw]
  refine gen_world (fun W => S6 w W b base g c n s cs cnt a X M (rgA gs)) ST.out ?_
  have hbb : w.heap.size ≤ b := by omega
  clear ST hbw hRB
  rintro W Q0
  have p18 := cell_of_blk Q0.r.f (i := 18) k18
  have p4 := cell_of_blk Q0.r.f (i := 4) k4
  have p3 := cell_of_blk Q0.r.f (i := 3) k3
  have HQ := hidOf Q0
  clear Q0
  obtain ⟨A, hRF, lenA, MD⟩ := HQ.out.f.mid
  have MF := (MD W b 46 HQ.out.r.f).1
  obtain ⟨fs, u44⟩ := isT_rf.2
  have i44 : (Tryz.prog.info? 44).map (·.size) = some A.toList.length := by rw [isT_rf.1, lenA]
  have SUC : Hid (∀ Y, Kept [] W Y → Calls Tryz.prog 30 #[.agg A, .int .i64 s.lv] Y fun e w' => e = .returned (.int .u64 s.su) ∧ Kept [] W w') := hidOf (fun Y kk => (rsucc_any base s.f A s.lv Y (hRF.new kk) (by have := bi.fi.ss; have := bi.fi.dn; have := HN_eq HR1.out; have := HR1.out.h1; omega)).mono fun _ _ z => ⟨z.1, kk.trans z.2⟩)
  obtain ⟨su, hsu⟩ : ∃ x, x = s.su := ⟨_, rfl⟩
  obtain ⟨lv, hlv⟩ : ∃ x, x = s.lv := ⟨_, rfl⟩
  have l1 : 1 ≤ lv := by rw [hlv]; exact bi.l1
  have l6 : lv ≤ 6 := by have := bi.l2; have := HR1.out.h1; omega
  rw [← hsu, ← hlv] at SUC
  rw [← hlv] at p3
  have HE := hidOf (And.intro hsu hlv)
  clear MD hRF hsu hlv
  go_wp2_with (first | ((with_reducible change wpList _ _ _ (Oper.mk _ (Op.load 44 (Operand.tmp 24)) _ _ _ _ :: _) _ _); refine wpList_load_mid rfl 44 (.tmp 24) rfl b 5 rfl A.toList _ MF u44 rfl i44 ?_))
  refine (SUC.out _ (Kept.refl _ _)).mono ?_
  rintro e w1 ⟨rfl, K1⟩
  have Q1 := hidOf (HQ.out.new K1)
  clear SUC MF u44 i44 lenA K1 HQ p18 p4 p3
  have p18 := cell_of_blk Q1.out.r.f (i := 18) k18
  have p4 := cell_of_blk Q1.out.r.f (i := 4) k4
  have p3 := cell_of_blk Q1.out.r.f (i := 3) k3
  rw [← HE.out.2] at p3
  have p0 := cell_of_blk Q1.out.r.f (i := 0) k0
  have p17 := cell_of_blk Q1.out.r.f (i := 17) k17
  have QM := Q1.out.r.m
  rw [← HE.out.2, ← HE.out.1] at HC
  go_wp2_with (first
    | ((with_reducible change wpList _ _ _ (Oper.mk _ (Op.load 35 (Operand.tmp 4)) _ _ _ _ :: _) _ _); refine wpList_load_rw 35 isT_rm rfl (.tmp 4) rfl (b + 1) rfl M hM15 QM ?_))
  refine (HC.out _ Q1.out.r.k).mono ?_
  rintro e w2 ⟨B, rfl, WV', K2⟩
  clear HC QM p17
  have WV := WV'.old (w := w) (by have := Q1.out.r.k.size; omega)
  have sB := WV.size
  have oB := WV.allOne
  have V1 := hidOf (And.intro (Q1.out.new K2) WV)
  obtain ⟨d, hdw⟩ : ∃ d, d = w2.heap.size := ⟨_, rfl⟩
  clear Q1 WV WV' p18 p4 p3 p0
  go_upto_region 21 with (first
    | ((with_reducible change wpList _ _ _ (Oper.mk _ (Op.store 35 (Operand.tmp 15) _) _ _ _ _ :: _) _ _); refine wpList_store_rw 35 isT_rm rfl (.tmp 15) (.tmp 90) rfl w2.heap.size B rfl rfl sB oB rmZ (RW.new 35 w2 rmZ) rfl ?_))
  rw [← hdw]
  refine gen_world (fun V => V6 w V b d base g c n s CS (cnt + 1) AC X M B (rgA gs)) ?_ ?_
  · have kk := ((Kept.refl [] w2).alloc (.cells rmZ 35)).setRow (b := d) (Or.inr (by omega)) B
    have zz := V1.out.1.r.z.lt
    refine ⟨V1.out.1.r.new kk, V1.out.1.f.new kk, ?_, V1.out.2.new kk, Or.inr (by omega)⟩
    rw [hdw]; exact (RW.new 35 w2 rmZ).row _
  clear V1 hdw K2
  rintro V Q3
  have p4 := cell_of_blk Q3.r.f (i := 4) k4
  have pf := free_of_blk Q3.r.f
  have pl := lt_of_blk Q3.r.f
  have HV := hidOf Q3
  clear Q3
  cases IS with
  | true =>
    have HV2 := hidOf ((HV.out.nx 1).nx 3)
    go_upto_region 24 with (fail)
    refine gen_world (fun V => V6 w V b d base g c n { s with nx := 3 } CS (cnt + 1) AC ((X.setIfInBounds 4 (.int .i64 ((1 : Nat) : Int))).setIfInBounds 4 (.int .i64 ((3 : Nat) : Int))) M B (rgA gs)) HV2.out ?_
    clear HV HV2 p4 pf pl
    rintro V7 Q7
    generalize (X.setIfInBounds 4 (.int .i64 ((1 : Nat) : Int))).setIfInBounds 4 (.int .i64 ((3 : Nat) : Int)) = Y at Q7 ⊢
    go_upto_region 24 with (fail)
    refine wp_ret3 isT_rb isT_rm isT_rg (by kernel_rfl) (by kernel_rfl) (by kernel_rfl) (fun _ _ _ _ _ h => h) b d (b + 1 + 1) (b + 1 + 1 + 1) (b + 1 + 1 + 1 + 1) (b + 1 + 1 + 1 + 1 + 1) Y B (rgA gs) rbZ rmZ rgZ Q7.f.size Q7.v.size rfl Q7.f.one Q7.v.allOne (rg_one _) rfl rfl rfl Q7.r.f Q7.m Q7.r.g Q7.r.x Q7.r.y Q7.r.z (by omega) (by have := Q7.hd; omega) (by omega) (by omega) rfl rfl rfl rfl rfl rfl rfl rfl rfl ?_
    simp only [Act.put, List.setIfInBounds_toArray, List.set_cons_zero, List.set_cons_succ]
    have EE := Q7.ret
    have sx := Q7.f.size
    have sm := Q7.v.size
    go_wp2
    refine bodyPost_ret (v := .tuple #[.agg Y, .agg B, .agg (rgA gs)]) (results_rw3 Tryz.results12 isT_rb isT_rm isT_rg _ _ (b + 1 + 1 + 1) (b + 1 + 1 + 1 + 1) (b + 1 + 1 + 1 + 1 + 1) Y B (rgA gs) sx sm rfl rfl rfl rfl EE.x EE.y EE.z) rfl ⟨_, _, rfl, (by rw [HQS.out]; (first | rw [if_pos rfl] | rw [if_pos trivial]); exact EE.f), EE.v, EE.k⟩
  | false =>
    have HV2 := hidOf (HV.out.nx 1)
    go_upto_region 24 with (fail)
    refine gen_world (fun V => V6 w V b d base g c n { s with nx := 1 } CS (cnt + 1) AC (X.setIfInBounds 4 (.int .i64 ((1 : Nat) : Int))) M B (rgA gs)) HV2.out ?_
    clear HV HV2 p4 pf pl
    rintro V7 Q7
    generalize X.setIfInBounds 4 (.int .i64 ((1 : Nat) : Int)) = Y at Q7 ⊢
    go_upto_region 24 with (fail)
    refine wp_ret3 isT_rb isT_rm isT_rg (by kernel_rfl) (by kernel_rfl) (by kernel_rfl) (fun _ _ _ _ _ h => h) b d (b + 1 + 1) (b + 1 + 1 + 1) (b + 1 + 1 + 1 + 1) (b + 1 + 1 + 1 + 1 + 1) Y B (rgA gs) rbZ rmZ rgZ Q7.f.size Q7.v.size rfl Q7.f.one Q7.v.allOne (rg_one _) rfl rfl rfl Q7.r.f Q7.m Q7.r.g Q7.r.x Q7.r.y Q7.r.z (by omega) (by have := Q7.hd; omega) (by omega) (by omega) rfl rfl rfl rfl rfl rfl rfl rfl rfl ?_
    simp only [Act.put, List.setIfInBounds_toArray, List.set_cons_zero, List.set_cons_succ]
    have EE := Q7.ret
    have sx := Q7.f.size
    have sm := Q7.v.size
    go_wp2
    refine bodyPost_ret (v := .tuple #[.agg Y, .agg B, .agg (rgA gs)]) (results_rw3 Tryz.results12 isT_rb isT_rm isT_rg _ _ (b + 1 + 1 + 1) (b + 1 + 1 + 1 + 1) (b + 1 + 1 + 1 + 1 + 1) Y B (rgA gs) sx sm rfl rfl rfl rfl EE.x EE.y EE.z) rfl ⟨_, _, rfl, (by rw [HQS.out, if_neg (by decide)]; exact EE.f), EE.v, EE.k⟩
end K
end Go.Proofs.YtkjjieklccbmoaaGreatDoor
namespace Go.Proofs.YtkjjieklccbmoaaGreatDoor
open Go.RowKit (Grown Hid Below)
open Go.Deep
namespace K
set_option maxRecDepth 100000
theorem V6.retG {w W : World} {b d base g : Nat} {c : Cfg} {n : Nat} {s : Bm} {cs : List Int} {cnt : Int} {a : Acc} {X M B G : Array Value} (h : V6 w W b d base g c n s cs cnt a X M B G) (G2 : Array Value) : T6 w (((W.drew.setRow (b + 1 + 1 + 1) X).setRow (b + 1 + 1 + 1 + 1) B).setRow (b + 1 + 1 + 1 + 1 + 1) G2) b base g c n s cs cnt a X B G2 := by
  have kd := (Kept.refl [] W).drew
  have x0 := h.r.x.kept kd (by simp)
  have y0 := h.r.y.kept kd (by simp)
  have z0 := h.r.z.kept kd (by simp)
  have f0 := h.f.new kd
  have v0 := h.v.new kd
  have k0 := h.r.k.trans kd
  have y1 := y0.rowOther X (c := (b + 1 + 1 + 1)) (by omega)
  have z1 := z0.rowOther X (c := (b + 1 + 1 + 1)) (by omega)
  have z2 := z1.rowOther B (c := (b + 1 + 1 + 1 + 1)) (by omega)
  have f1 := f0.far1 x0 (by decide) (k_row _ _ X)
  have v1 := v0.one x0 (by decide) (k_row _ _ X)
  have f2 := f1.far1 y1 (by decide) (k_row _ _ B)
  have v2 := v1.one y1 (by decide) (k_row _ _ B)
  have o := h.r.old
  exact ⟨((x0.row X).rowOther B (by omega)).rowOther G2 (by omega), (y1.row B).rowOther G2 (by omega), z2.row G2, f2.far1 z2 (by decide) (k_row _ _ G2), v2.one z2 (by decide) (k_row _ _ G2), ((k0.setRow (Or.inr (by omega)) X).setRow (Or.inr (by omega)) B).setRow (Or.inr (by omega)) G2⟩
set_option maxHeartbeats 8000000 in
theorem rbs0_any {base g : Nat} {c : Cfg} {s : Bm} {X : Array Value} {gs : Gs} {cs : List Int} {cap : Nat} {cnt : Int} {w : World} (a : Acc) (S : SB base w g c s X gs cs cap cnt) (hd : s.d = false) (hnx : s.nx = 0) :
    Calls Tryz.prog 12 #[.agg X, .agg (rmA c (some ⟨g, 0, none⟩) cs.length cap cnt a), .agg (rgA gs)] w fun e w' => ∃ Y B, e = .returned (.tuple #[.agg Y, .agg B, .agg (rgA (fG c gs s.f))]) ∧ RB base w' (if (fF c cs cnt gs s.f).d = true then ({ s with f := fF c cs cnt gs s.f } : Bm).look c else { s with f := fF c cs cnt gs s.f }) Y ∧ Wv w g c cs.length (fC c cs gs s.f) (cnt + 1) (fA c cs gs s.f a) B w' ∧ Kept [] w w' := by
  obtain ⟨hRB, hR, hl, c0, c1, R, bi, wd, hb, u0, u1⟩ := S
  have HR1 := hidOf R
  have hdF := bi.f0 hd hnx
  have HC := hidOf (fun (W : World) (A : Array Value) (k : Kept [] w W) (hf : RF base W s.f A) => rfstep_any a (⟨hf, hR.kept k (by simp), hl, c0, c1, R, bi.fi, wd, by have := k.size; omega, u0, u1⟩ : SQ base W g c s.f A gs cs cap cnt))
  rw [fN_no hdF] at HC
  have FF := bi.fi.step R wd cnt gs
  generalize fF c cs cnt gs s.f = F at HC FF ⊢
  generalize fC c cs gs s.f = CS at HC ⊢
  generalize fA c cs gs s.f a = AC at HC ⊢
  obtain ⟨G, hG⟩ : ∃ G, G = rgA (fG c gs s.f) := ⟨_, rfl⟩
  rw [← hG] at HC ⊢
  have HG := hidOf hG
  clear hG
  obtain ⟨QS, hQS⟩ : ∃ Q : Bm, Q = (if F.d = true then ({ s with f := F } : Bm).look c else { s with f := F }) := ⟨_, rfl⟩
  rw [← hQS]
  have HQS := hidOf hQS
  clear hQS
  obtain ⟨n, hn⟩ : ∃ n, n = cs.length := ⟨_, rfl⟩
  obtain ⟨M, hM⟩ : ∃ M, M = rmA c (some ⟨g, 0, none⟩) cs.length cap cnt a := ⟨_, rfl⟩
  have hM15 : M.size = 15 := by rw [hM]; rfl
  have hMv : Wv w g c cs.length cs cnt a M w := ⟨g, cap, hM, Or.inl rfl, hR⟩
  rw [← hM] at HC ⊢
  rw [← hn] at HC hMv ⊢
  obtain ⟨k0, k1, k2, k3, k4, k17, k18⟩ := hRB.cells
  have s19 := hRB.size
  rw [hd] at k18
  rw [hnx] at k4
  obtain ⟨b, hbw⟩ : ∃ b, b = w.heap.size := ⟨_, rfl⟩
  have ST := hidOf (show S6 w _ b base g c n s cs cnt a X M (rgA gs) from ⟨P6.start w X M (rgA gs) hbw, hRB.new (P6.start w X M (rgA gs) hbw).k, hMv.new (P6.start w X M (rgA gs) hbw).k⟩)
  clear hR hl hM hn R wd hMv
  go_enter Tryz.func12, Tryz.ntmps12
  go_upto_region 1 with (fail)
  rw [← hbw]
  refine gen_world (fun W => S6 w W b base g c n s cs cnt a X M (rgA gs)) ST.out ?_
  have hbb : w.heap.size ≤ b := by omega
  clear ST hbw hRB
  rintro W Q0
  have p18 := cell_of_blk Q0.r.f (i := 18) k18
  have p4 := cell_of_blk Q0.r.f (i := 4) k4
  have p3 := cell_of_blk Q0.r.f (i := 3) k3
  have HQ := hidOf Q0
  clear Q0
  obtain ⟨A, hRF, lenA, MD⟩ := HQ.out.f.mid
  have MF := (MD W b 46 HQ.out.r.f).1
  obtain ⟨fs, u44⟩ := isT_rf.2
  have i44 : (Tryz.prog.info? 44).map (·.size) = some A.toList.length := by rw [isT_rf.1, lenA]
  have SUC : Hid (∀ Y, Kept [] W Y → Calls Tryz.prog 30 #[.agg A, .int .i64 s.lv] Y fun e w' => e = .returned (.int .u64 s.su) ∧ Kept [] W w') := hidOf (fun Y kk => (rsucc_any base s.f A s.lv Y (hRF.new kk) (by have := bi.fi.ss; have := bi.fi.dn; have := HN_eq HR1.out; have := HR1.out.h1; omega)).mono fun _ _ z => ⟨z.1, kk.trans z.2⟩)
  obtain ⟨su, hsu⟩ : ∃ x, x = s.su := ⟨_, rfl⟩
  obtain ⟨lv, hlv⟩ : ∃ x, x = s.lv := ⟨_, rfl⟩
  have l1 : 1 ≤ lv := by rw [hlv]; exact bi.l1
  have l6 : lv ≤ 6 := by have := bi.l2; have := HR1.out.h1; omega
  rw [← hsu, ← hlv] at SUC
  rw [← hlv] at p3
  have HE := hidOf (And.intro hsu hlv)
  clear MD hRF hsu hlv
  go_wp2_with (first | ((with_reducible change wpList _ _ _ (Oper.mk _ (Op.load 44 (Operand.tmp 24)) _ _ _ _ :: _) _ _); refine wpList_load_mid rfl 44 (.tmp 24) rfl b 5 rfl A.toList _ MF u44 rfl i44 ?_))
  refine (SUC.out _ (Kept.refl _ _)).mono ?_
  rintro e w1 ⟨rfl, K1⟩
  have Q1 := hidOf (HQ.out.new K1)
  clear SUC MF u44 i44 lenA K1 HQ p18 p4 p3
  have p18 := cell_of_blk Q1.out.r.f (i := 18) k18
  have p4 := cell_of_blk Q1.out.r.f (i := 4) k4
  have p3 := cell_of_blk Q1.out.r.f (i := 3) k3
  rw [← HE.out.2] at p3
  obtain ⟨A, hRF, lenA, MD⟩ := Q1.out.f.mid
  have MF := (MD w1 b 46 Q1.out.r.f).1
  obtain ⟨fs, u44⟩ := isT_rf.2
  have i44 : (Tryz.prog.info? 44).map (·.size) = some A.toList.length := by rw [isT_rf.1, lenA]
  have HCA := hidOf (HC.out w1 A Q1.out.r.k hRF)
  have QM := Q1.out.r.m
  have QG := Q1.out.r.g
  clear HC MD
  go_wp2_with (first
    | ((with_reducible change wpList _ _ _ (Oper.mk _ (Op.load 44 (Operand.tmp 34)) _ _ _ _ :: _) _ _); refine wpList_load_mid rfl 44 (.tmp 34) rfl b 5 rfl A.toList _ MF u44 rfl i44 ?_)
    | ((with_reducible change wpList _ _ _ (Oper.mk _ (Op.load 35 (Operand.tmp 4)) _ _ _ _ :: _) _ _); refine wpList_load_rw 35 isT_rm rfl (.tmp 4) rfl (b + 1) rfl M hM15 QM ?_)
    | ((with_reducible change wpList _ _ _ (Oper.mk _ (Op.load 49 (Operand.tmp 5)) _ _ _ _ :: _) _ _); refine wpList_load_rw 49 isT_rg rfl (.tmp 5) rfl (b + 1 + 1) rfl (rgA gs) rfl QG ?_))
  refine HCA.out.mono ?_
  rintro e w2 ⟨XF, B, rfl, RX, WV', K2⟩
  have WV := WV'.old (w := w) Q1.out.r.k.size
  have sB := WV.size
  have oB := WV.allOne
  have sX := RX.size
  have oX := RX.one
  have sG : G.size = 3 := by rw [HG.out]; rfl
  have oG : G.all (·.oneCell') = true := by rw [HG.out]; exact rg_one _
  have V1 := hidOf (And.intro (Q1.out.new K2) (And.intro WV RX))
  have T3 := three_new 44 35 49 w2 rfZ rmZ rgZ rfl
  have t1 := T3.1
  have t2 := T3.2.1.rowOther XF (c := w2.heap.size) (by omega)
  have t3 := (T3.2.2.1.rowOther XF (c := w2.heap.size) (by omega)).rowOther B (c := w2.heap.size + 1) (by omega)
  have HK3 := hidOf T3.2.2.2
  have HT3 := hidOf (And.intro t1 (And.intro t2 t3))
  obtain ⟨d, hdw⟩ : ∃ d, d = w2.heap.size := ⟨_, rfl⟩
  clear Q1 WV WV' RX MF u44 i44 lenA hRF HCA QM QG p18 p4 p3 T3 K2
  go_upto_region 7 with (first
    | ((with_reducible change wpList _ _ _ (Oper.mk _ (Op.store 44 (Operand.tmp 10) _) _ _ _ _ :: _) _ _); refine wpList_store_rw 44 isT_rf rfl (.tmp 10) (.tmp 39) rfl w2.heap.size XF rfl rfl sX oX rfZ t1 rfl ?_)
    | ((with_reducible change wpList _ _ _ (Oper.mk _ (Op.store 35 (Operand.tmp 11) _) _ _ _ _ :: _) _ _); refine wpList_store_rw 35 isT_rm rfl (.tmp 11) (.tmp 40) rfl (w2.heap.size + 1) B rfl rfl sB oB rmZ t2 rfl ?_)
    | ((with_reducible change wpList _ _ _ (Oper.mk _ (Op.store 49 (Operand.tmp 12) _) _ _ _ _ :: _) _ _); refine wpList_store_rw 49 isT_rg rfl (.tmp 12) (.tmp 41) rfl (w2.heap.size + 1 + 1) G rfl rfl sG oG rgZ t3 rfl ?_))
  rw [← hdw]
  refine gen_world (fun V => V6 w V b (d + 1) base g c n s CS (cnt + 1) AC X M B (rgA gs) ∧ RW 44 V d XF ∧ RW 49 V (d + 1 + 1) G ∧ RF base V F XF) ?_ ?_
  · have kk := ((HK3.out.setRow (b := d) (Or.inr (by omega)) XF).setRow (b := d + 1) (Or.inr (by omega)) B).setRow (b := d + 1 + 1) (Or.inr (by omega)) G
    have zz := V1.out.1.r.z.lt
    have t := HT3.out
    rw [← hdw] at t
    exact ⟨⟨V1.out.1.r.new kk, V1.out.1.f.new kk, (t.2.1.row B).rowOther G (by omega), V1.out.2.1.new kk, Or.inr (by omega)⟩, (((t.1.row XF).rowOther B (by omega)).rowOther G (by omega)), t.2.2.row G, V1.out.2.2.new kk⟩
  have hdb : b + 1 + 1 + 1 + 1 + 1 < d := by have := V1.out.1.r.z.lt; omega
  clear V1 hdw HK3 HT3 t1 t2 t3
  rintro V Q3
  have DF := Q3.2.1
  obtain ⟨A3, -, len3, MD3⟩ := Q3.1.f.mid
  have TH : V.there b 5 XF.size := by rw [sX]; exact (MD3 V b 46 Q3.1.r.f).2
  have i44 : (Tryz.prog.info? 44).map (·.size) = some XF.size := by rw [isT_rf.1, sX]
  have HV := hidOf Q3
  clear Q3 MD3 len3
  go_upto_region 8 with (first
    | ((with_reducible change wpList _ _ _ (Oper.mk _ (Op.load 44 (Operand.tmp 10)) _ _ _ _ :: _) _ _); refine wpList_load_rw 44 isT_rf rfl (.tmp 10) rfl d rfl XF sX DF ?_)
    | ((with_reducible change wpList _ _ _ (Oper.mk _ (Op.store 44 (Operand.tmp 43) _) _ _ _ _ :: _) _ _); refine wpList_store_mid rfl 44 (.tmp 43) (.tmp 42) rfl b 5 XF rfl rfl TH i44 oX ?_))
  refine gen_world (fun Y => V6 w Y b (d + 1) base g c n { s with f := F } CS (cnt + 1) AC (setFrom X 5 XF.toList) M B (rgA gs) ∧ RW 44 Y d XF ∧ RW 49 Y (d + 1 + 1) G) ?_ ?_
  · have k := kept_cells b XF.toList 5 (Kept.refl [b] V)
    exact ⟨HV.out.1.cells HV.out.2.2.2, HV.out.2.1.kept k (nin1 (by omega)), HV.out.2.2.1.kept k (nin1 (by omega))⟩
  have e11 := HV.out.2.2.2.cells.2.2.2.2.2.2.2.2
  clear HV DF TH
  rintro V4 Q4
  generalize setFrom X 5 XF.toList = X4 at Q4 ⊢
  have q11 := cell_of_blk Q4.2.1 (i := 11) e11
  obtain ⟨D, hD⟩ : ∃ D, D = F.d := ⟨_, rfl⟩
  rw [← hD] at q11 HQS
  have HV4 := hidOf Q4
  have HD := hidOf hD
  clear Q4 hD e11
  cases D with
  | false =>
    have Q7 := HV4.out.1
    have gF := HV4.out.2.2
    clear HV4
    go_upto_region 10 with (fail)
    refine wp_ret3 isT_rb isT_rm isT_rg (by kernel_rfl) (by kernel_rfl) (by kernel_rfl) (fun _ _ _ _ _ h => h) b (d + 1) (d + 1 + 1) (b + 1 + 1 + 1) (b + 1 + 1 + 1 + 1) (b + 1 + 1 + 1 + 1 + 1) X4 B G rbZ rmZ rgZ Q7.f.size Q7.v.size (by rw [HG.out]; rfl) Q7.f.one Q7.v.allOne (by rw [HG.out]; exact rg_one _) rfl rfl rfl Q7.r.f Q7.m gF Q7.r.x Q7.r.y Q7.r.z (by omega) (by have := Q7.hd; omega) (by omega) (by omega) rfl rfl rfl rfl rfl rfl rfl rfl rfl ?_
    simp only [Act.put, List.setIfInBounds_toArray, List.set_cons_zero, List.set_cons_succ]
    have EE := Q7.retG G
    have sx := Q7.f.size
    have sm := Q7.v.size
    have hG := HG.out
    go_wp2
    refine bodyPost_ret (v := .tuple #[.agg X4, .agg B, .agg G]) (results_rw3 Tryz.results12 isT_rb isT_rm isT_rg _ _ (b + 1 + 1 + 1) (b + 1 + 1 + 1 + 1) (b + 1 + 1 + 1 + 1 + 1) X4 B G sx sm (by rw [HG.out]; rfl) rfl rfl rfl EE.x EE.y EE.z) rfl ⟨_, _, rfl, (by rw [HQS.out, if_neg (by decide)]; exact EE.f), EE.v, EE.k⟩
  | true =>
    have LK := hidOf (fun (Y : World) (k : Kept [] V4 Y) => rlook_any (c := c) (HV4.out.1.f.new k) HV4.out.1.v.size HV4.out.1.v.cells.1 hd ⟨by show F.ss.length ≤ 1000; have := FF.ss; have := FF.dn; have := HN_eq HR1.out; have := HR1.out.h1; omega, by show F.ks.length ≤ 1000; have := FF.ks; have := FF.dn; have := HN_eq HR1.out; have := HR1.out.h1; omega⟩)
    have sX4 := HV4.out.1.f.size
    have F4 := HV4.out.1.r.f
    have M4 := HV4.out.1.m
    go_wp2_with (first
    | ((with_reducible change wpList _ _ _ (Oper.mk _ (Op.load 46 (Operand.tmp 3)) _ _ _ _ :: _) _ _); refine wpList_load_rw 46 isT_rb rfl (.tmp 3) rfl b rfl X4 sX4 F4 ?_)
    | ((with_reducible change wpList _ _ _ (Oper.mk _ (Op.load 35 (Operand.tmp 11)) _ _ _ _ :: _) _ _); refine wpList_load_rw 35 isT_rm rfl (.tmp 11) rfl (d + 1) rfl B sB M4 ?_))
    refine (LK.out _ (Kept.refl _ _)).mono ?_
    rintro e w5 ⟨Y, rfl, RY, K5⟩
    have HV5 := hidOf (And.intro (HV4.out.1.new K5) (And.intro (HV4.out.2.2.kept K5 (by simp)) RY))
    have sY := RY.size
    have oY := RY.one
    have F5 := HV5.out.1.r.f
    clear HV4 LK F4 M4 K5 RY q11
    go_upto_region 10 with (first
    | ((with_reducible change wpList _ _ _ (Oper.mk _ (Op.store 46 (Operand.tmp 3) _) _ _ _ _ :: _) _ _); refine wpList_store_rw 46 isT_rb rfl (.tmp 3) (.tmp 48) rfl b Y rfl rfl sY oY X4 F5 sX4 ?_))
    refine gen_world (fun Z => V6 w Z b (d + 1) base g c n (({ s with f := F } : Bm).look c) CS (cnt + 1) AC Y M B (rgA gs) ∧ RW 49 Z (d + 1 + 1) G) ?_ ?_
    · have k := k_row w5 b Y
      have q := HV5.out
      exact ⟨⟨q.1.r.setF Y, q.2.2.far1 q.1.r.f (by decide) k, q.1.m.rowOther Y (by omega), q.1.v.one q.1.r.f (by decide) k, q.1.hd⟩, q.2.1.rowOther Y (by omega)⟩
    clear HV5 F5
    rintro V7 Q8
    have Q7 := Q8.1
    have gF := Q8.2
    clear Q8
    go_upto_region 10 with (fail)
    refine wp_ret3 isT_rb isT_rm isT_rg (by kernel_rfl) (by kernel_rfl) (by kernel_rfl) (fun _ _ _ _ _ h => h) b (d + 1) (d + 1 + 1) (b + 1 + 1 + 1) (b + 1 + 1 + 1 + 1) (b + 1 + 1 + 1 + 1 + 1) Y B G rbZ rmZ rgZ Q7.f.size Q7.v.size (by rw [HG.out]; rfl) Q7.f.one Q7.v.allOne (by rw [HG.out]; exact rg_one _) rfl rfl rfl Q7.r.f Q7.m gF Q7.r.x Q7.r.y Q7.r.z (by omega) (by have := Q7.hd; omega) (by omega) (by omega) rfl rfl rfl rfl rfl rfl rfl rfl rfl ?_
    simp only [Act.put, List.setIfInBounds_toArray, List.set_cons_zero, List.set_cons_succ]
    have EE := Q7.retG G
    have sx := Q7.f.size
    have sm := Q7.v.size
    have hG := HG.out
    go_wp2
    refine bodyPost_ret (v := .tuple #[.agg Y, .agg B, .agg G]) (results_rw3 Tryz.results12 isT_rb isT_rm isT_rg _ _ (b + 1 + 1 + 1) (b + 1 + 1 + 1 + 1) (b + 1 + 1 + 1 + 1 + 1) Y B G sx sm (by rw [HG.out]; rfl) rfl rfl rfl EE.x EE.y EE.z) rfl ⟨_, _, rfl, (by rw [HQS.out]; (first | rw [if_pos rfl] | rw [if_pos trivial]); exact EE.f), EE.v, EE.k⟩
end K
end Go.Proofs.YtkjjieklccbmoaaGreatDoor
namespace Go.Proofs.YtkjjieklccbmoaaGreatDoor
open Go.RowKit (Grown Hid Below)
open Go.Deep
namespace K
set_option maxRecDepth 100000
theorem P6.far {w W : World} {b d : Nat} {X M G : Array Value} (h : P6 w W b X M G) (hd : b + 1 + 1 + 1 + 1 + 1 < d) (B : Array Value) : P6 w (W.setRow d B) b X M G :=
  ⟨h.f.rowOther B (by omega), h.m.rowOther B (by omega), h.g.rowOther B (by omega), h.x.rowOther B (by omega), h.y.rowOther B (by omega), h.z.rowOther B (by omega), h.k.setRow (Or.inr (by have := h.old; omega)) B, h.old⟩
theorem P6.ret2 {w W : World} {b base g : Nat} {c : Cfg} {n : Nat} {s : Bm} {cs : List Int} {cnt : Int} {a : Acc} {X M B G Y : Array Value} (r : P6 w W b X M G) (f0 : RB base W s Y) (v0 : Wv w g c n cs cnt a B W) (G2 : Array Value) : T6 w (((W.setRow (b + 1 + 1 + 1) Y).setRow (b + 1 + 1 + 1 + 1) B).setRow (b + 1 + 1 + 1 + 1 + 1) G2) b base g c n s cs cnt a Y B G2 := by
  have x0 := r.x
  have y1 := r.y.rowOther Y (c := (b + 1 + 1 + 1)) (by omega)
  have z1 := r.z.rowOther Y (c := (b + 1 + 1 + 1)) (by omega)
  have z2 := z1.rowOther B (c := (b + 1 + 1 + 1 + 1)) (by omega)
  have f1 := f0.far1 x0 (by decide) (k_row _ _ Y)
  have v1 := v0.one x0 (by decide) (k_row _ _ Y)
  have f2 := f1.far1 y1 (by decide) (k_row _ _ B)
  have v2 := v1.one y1 (by decide) (k_row _ _ B)
  have o := r.old
  exact ⟨((x0.row Y).rowOther B (by omega)).rowOther G2 (by omega), (y1.row B).rowOther G2 (by omega), z2.row G2, f2.far1 z2 (by decide) (k_row _ _ G2), v2.one z2 (by decide) (k_row _ _ G2), ((r.k.setRow (Or.inr (by omega)) Y).setRow (Or.inr (by omega)) B).setRow (Or.inr (by omega)) G2⟩
set_option maxHeartbeats 8000000 in
theorem rbs3_any {base g : Nat} {c : Cfg} {s : Bm} {X : Array Value} {gs : Gs} {cs : List Int} {cap : Nat} {cnt : Int} {w : World} (a : Acc) (S : SB base w g c s X gs cs cap cnt) (hd : s.d = false) (hnx : s.nx = 3) :
    Calls Tryz.prog 12 #[.agg X, .agg (rmA c (some ⟨g, 0, none⟩) cs.length cap cnt a), .agg (rgA gs)] w fun e w' => ∃ Y B, e = .returned (.tuple #[.agg Y, .agg B, .agg (rgA gs)]) ∧ RB base w' (if (s.aL c cs).d = true then ({ s with lv := s.lv + 1 } : Bm).look c else s.anew) Y ∧ Wv w g c cs.length (clV cs 3 (clV' c (ixV s.pr) (6 + s.lv)) s.su s.h) (cnt + 1) (s.aL c cs) B w' ∧ Kept [] w w' := by
  obtain ⟨hRB, hR, hl, c0, c1, R, bi, wd, hb, u0, u1⟩ := S
  have HR1 := hidOf R
  have pW := bi.prW
  have HC := hidOf (fun (W : World) (k : Kept [] w W) => rswapW c g cs cap cnt a s.pr (6 + s.lv) s.su s.h W (hR.kept k (by simp)) hl pW c0 c1)
  obtain ⟨IS, hIS⟩ : ∃ IS, IS = (s.aL c cs).d := ⟨_, rfl⟩
  rw [show (acV cs 3 (clV' c (ixV s.pr) (6 + s.lv)) (plainV s.pr) s.su s.h).d = IS from hIS.symm] at HC
  rw [← hIS]
  rw [show acV cs 3 (clV' c (ixV s.pr) (6 + s.lv)) (plainV s.pr) s.su s.h = s.aL c cs from rfl] at HC
  clear hIS
  generalize s.aL c cs = AC at HC ⊢
  generalize clV cs 3 (clV' c (ixV s.pr) (6 + s.lv)) s.su s.h = CS at HC ⊢
  obtain ⟨QS, hQS⟩ : ∃ Q : Bm, Q = (if IS = true then ({ s with lv := s.lv + 1 } : Bm).look c else s.anew) := ⟨_, rfl⟩
  rw [← hQS]
  have HQS := hidOf hQS
  clear hQS
  obtain ⟨n, hn⟩ : ∃ n, n = cs.length := ⟨_, rfl⟩
  obtain ⟨M, hM⟩ : ∃ M, M = rmA c (some ⟨g, 0, none⟩) cs.length cap cnt a := ⟨_, rfl⟩
  have hM15 : M.size = 15 := by rw [hM]; rfl
  have hMv : Wv w g c cs.length cs cnt a M w := ⟨g, cap, hM, Or.inl rfl, hR⟩
  rw [← hM] at HC ⊢
  rw [← hn] at HC hMv ⊢
  obtain ⟨k0, k1, k2, k3, k4, k17, k18⟩ := hRB.cells
  have s19 := hRB.size
  rw [hd] at k18
  rw [hnx] at k4
  obtain ⟨b, hbw⟩ : ∃ b, b = w.heap.size := ⟨_, rfl⟩
  have ST := hidOf (show S6 w _ b base g c n s cs cnt a X M (rgA gs) from ⟨P6.start w X M (rgA gs) hbw, hRB.new (P6.start w X M (rgA gs) hbw).k, hMv.new (P6.start w X M (rgA gs) hbw).k⟩)
  clear hR hl hM hn R wd hMv
  go_enter Tryz.func12, Tryz.ntmps12
  go_upto_region 1 with (fail)
  rw [← hbw]
  refine gen_world (fun W => S6 w W b base g c n s cs cnt a X M (rgA gs)) ST.out ?_
  have hbb : w.heap.size ≤ b := by omega
  clear ST hbw hRB
  rintro W Q0
  have p18 := cell_of_blk Q0.r.f (i := 18) k18
  have p4 := cell_of_blk Q0.r.f (i := 4) k4
  have p3 := cell_of_blk Q0.r.f (i := 3) k3
  have HQ := hidOf Q0
  clear Q0
  obtain ⟨A, hRF, lenA, MD⟩ := HQ.out.f.mid
  have MF := (MD W b 46 HQ.out.r.f).1
  obtain ⟨fs, u44⟩ := isT_rf.2
  have i44 : (Tryz.prog.info? 44).map (·.size) = some A.toList.length := by rw [isT_rf.1, lenA]
  have SUC : Hid (∀ Y, Kept [] W Y → Calls Tryz.prog 30 #[.agg A, .int .i64 s.lv] Y fun e w' => e = .returned (.int .u64 s.su) ∧ Kept [] W w') := hidOf (fun Y kk => (rsucc_any base s.f A s.lv Y (hRF.new kk) (by have := bi.fi.ss; have := bi.fi.dn; have := HN_eq HR1.out; have := HR1.out.h1; omega)).mono fun _ _ z => ⟨z.1, kk.trans z.2⟩)
  obtain ⟨su, hsu⟩ : ∃ x, x = s.su := ⟨_, rfl⟩
  obtain ⟨lv, hlv⟩ : ∃ x, x = s.lv := ⟨_, rfl⟩
  have l1 : 1 ≤ lv := by rw [hlv]; exact bi.l1
  have l6 : lv ≤ 6 := by have := bi.l2; have := HR1.out.h1; omega
  rw [← hsu, ← hlv] at SUC
  rw [← hlv] at p3
  have HE := hidOf (And.intro hsu hlv)
  clear MD hRF hsu hlv
  go_wp2_with (first | ((with_reducible change wpList _ _ _ (Oper.mk _ (Op.load 44 (Operand.tmp 24)) _ _ _ _ :: _) _ _); refine wpList_load_mid rfl 44 (.tmp 24) rfl b 5 rfl A.toList _ MF u44 rfl i44 ?_))
  refine (SUC.out _ (Kept.refl _ _)).mono ?_
  rintro e w1 ⟨rfl, K1⟩
  have Q1 := hidOf (HQ.out.new K1)
  clear SUC MF u44 i44 lenA K1 HQ p18 p4 p3
  have p18 := cell_of_blk Q1.out.r.f (i := 18) k18
  have p4 := cell_of_blk Q1.out.r.f (i := 4) k4
  have p3 := cell_of_blk Q1.out.r.f (i := 3) k3
  rw [← HE.out.2] at p3
  obtain ⟨A, hRF, lenA, MD⟩ := Q1.out.f.mid
  have HMD := hidOf MD
  obtain ⟨fs, u44⟩ := isT_rf.2
  have i44 : (Tryz.prog.info? 44).map (·.size) = some A.toList.length := by rw [isT_rf.1, lenA]
  have HA := hidOf hRF
  obtain ⟨pr, hpr⟩ : ∃ x, x = s.pr := ⟨_, rfl⟩
  obtain ⟨hh, hhh⟩ : ∃ x, x = s.h := ⟨_, rfl⟩
  obtain ⟨eA, eX, -⟩ : ∃ A', X = rbJ s A' ∧ True := by obtain ⟨A', e, _⟩ := Q1.out.f; exact ⟨A', e, trivial⟩
  have PRD : Hid (∀ Y, Kept [] w1 Y → Calls Tryz.prog 36 #[.agg A, .int .i64 lv] Y fun e w' => e = .returned (.int .u64 pr) ∧ Kept [] Y w') := hidOf (fun Y kk => (rpred_any base s.f A lv Y (HA.out.new kk) (by have := bi.fi.ps; have := bi.fi.dn; have := HN_eq HR1.out; have := HR1.out.h1; omega)).mono fun _ _ z => ⟨by rw [z.1, hpr, HE.out.2]; rfl, z.2⟩)
  rw [← hpr, ← hhh, ← HE.out.1, ← HE.out.2, show 6 + lv = IntKind.i64.wrap (6 + lv) by rw [IntKind.wrap_i64]; omega] at HC
  rw [← hhh] at k0
  rw [← HE.out.2] at k3
  have HB := hidOf (And.intro hpr hhh)
  clear hRF MD hpr hhh eX eA
  go_upto_region 25 with (fail)
  clear p18 p4 p3
  have Q2 : S6 w w1.drew b base g c n s cs cnt a X M (rgA gs) := Q1.out.new (Kept.refl [] w1).drew
  refine region_key (fun a0 a' w' => ∃ d B, a' = ((((((((((((((((((a0.put (some 99) (.agg M)).put (some 100) (.pointer (some ⟨b, 5, none⟩))).put (some 101) (.agg A)).put (some 102) (.pointer (some ⟨b, 3, none⟩))).put (some 103) (.int .i64 lv)).put (some 104) (.int .u64 pr)).put (some 105) (.pointer (some ⟨b, 3, none⟩))).put (some 106) (.int .i64 lv)).put (some 107) (.int .i64 (IntKind.i64.wrap (6 + lv)))).put (some 108) (.int .u64 su)).put (some 109) (.pointer (some ⟨b, 0, none⟩))).put (some 110) (.int .u64 hh)).put (some 111) (.tuple #[.agg B, .bool IS])).put (some 98) (.tuple #[.agg B, .bool IS])).put (some 112) (.agg B)).put (some 113) (.bool IS)).put (some 17) (.pointer (some ⟨d, 0, none⟩))).put (some 18) (.bool IS)) ∧ V6 w w' b d base g c n s CS (cnt + 1) AC X M B (rgA gs)) ?_ ?_
  · refine wp_region_held_drew (S := fun w' => RW 46 w' b X ∧ RW 35 w' (b + 1) M) (by kernel_rfl) ⟨Q2.r.f, Q2.r.m⟩ (fun hS => ?_)
    have HK1 := hidOf (Kept.refl [] w1).drew
    generalize w1.drew = W1 at Q2 hS HK1 ⊢
    refine wpAnyH_take (i := 0) (oi := { dst := some 99, op := Op.load 35 (Operand.tmp 4), type := 35, pos := "ref.go:70", after := #[], guard := none }) (v := Value.agg M) rfl (by kernel_rfl) (by kernel_rfl) (by kernel_rfl) (fun _ _ _ h => nomatch h.1) (yieldsIf_load_rw rfl 35 isT_rm (.tmp 4) rfl (b + 1) rfl M hM15 (fun _ h => h.2)) hS ?_
    try simp only [Act.put, List.setIfInBounds_toArray, List.set_cons_zero, List.set_cons_succ]
    refine wpAnyH_take (i := 1) (oi := { dst := some 100, op := Op.fieldAddr 46 (Operand.tmp 3) 5, type := 0, pos := "ref.go:70", after := #[], guard := none }) (v := Value.pointer (some ⟨b, 5, none⟩)) rfl (by kernel_rfl) (by kernel_rfl) (by kernel_rfl) (fun _ _ _ h => nomatch h.1) (Or.inl ⟨rfl, fun _ _ => by kernel_rfl⟩) hS ?_
    try simp only [Act.put, List.setIfInBounds_toArray, List.set_cons_zero, List.set_cons_succ]
    refine wpAnyH_take (i := 2) (oi := { dst := some 101, op := Op.load 44 (Operand.tmp 100), type := 44, pos := "ref.go:70", after := #[{ on := 1, ground := Ground.data }], guard := none }) (v := Value.agg A) rfl (by kernel_rfl) (by kernel_rfl) (by kernel_rfl) (fun _ _ _ h => nomatch h.1) (yieldsIf_load_mid rfl 44 (.tmp 100) rfl b 5 rfl A.toList _ (fun w' h => (HMD.out w' b 46 h.1).1) u44 rfl i44) hS ?_
    try simp only [Act.put, List.setIfInBounds_toArray, List.set_cons_zero, List.set_cons_succ]
    refine wpAnyH_take (i := 3) (oi := { dst := some 102, op := Op.fieldAddr 46 (Operand.tmp 3) 3, type := 0, pos := "ref.go:70", after := #[], guard := none }) (v := Value.pointer (some ⟨b, 3, none⟩)) rfl (by kernel_rfl) (by kernel_rfl) (by kernel_rfl) (fun _ _ _ h => nomatch h.1) (Or.inl ⟨rfl, fun _ _ => by kernel_rfl⟩) hS ?_
    try simp only [Act.put, List.setIfInBounds_toArray, List.set_cons_zero, List.set_cons_succ]
    refine wpAnyH_take (i := 4) (oi := { dst := some 103, op := Op.load 3 (Operand.tmp 102), type := 3, pos := "ref.go:70", after := #[{ on := 3, ground := Ground.data }], guard := none }) (v := Value.int .i64 lv) rfl (by kernel_rfl) (by kernel_rfl) (by kernel_rfl) (fun _ _ _ h => nomatch h.1) (Or.inl ⟨rfl, fun w hSw => by have z := cell_of_blk hSw.1 (i := 3) (v := .int .i64 lv) k3; go_simp⟩) hS ?_
    try simp only [Act.put, List.setIfInBounds_toArray, List.set_cons_zero, List.set_cons_succ]
    refine wpAnyH_take (i := 6) (oi := { dst := some 105, op := Op.fieldAddr 46 (Operand.tmp 3) 3, type := 0, pos := "ref.go:70", after := #[], guard := none }) (v := Value.pointer (some ⟨b, 3, none⟩)) rfl (by kernel_rfl) (by kernel_rfl) (by kernel_rfl) (fun _ _ _ h => nomatch h.1) (Or.inl ⟨rfl, fun _ _ => by kernel_rfl⟩) hS ?_
    try simp only [Act.put, List.setIfInBounds_toArray, List.set_cons_zero, List.set_cons_succ]
    refine wpAnyH_take (i := 7) (oi := { dst := some 106, op := Op.load 3 (Operand.tmp 105), type := 3, pos := "ref.go:70", after := #[{ on := 6, ground := Ground.data }], guard := none }) (v := Value.int .i64 lv) rfl (by kernel_rfl) (by kernel_rfl) (by kernel_rfl) (fun _ _ _ h => nomatch h.1) (Or.inl ⟨rfl, fun w hSw => by have z := cell_of_blk hSw.1 (i := 3) (v := .int .i64 lv) k3; go_simp⟩) hS ?_
    try simp only [Act.put, List.setIfInBounds_toArray, List.set_cons_zero, List.set_cons_succ]
    refine wpAnyH_take (i := 8) (oi := { dst := some 107, op := Op.binOp BinOp.add 3 (Operand.const (Value.int IntKind.i64 6)) (Operand.tmp 106) 3, type := 3, pos := "ref.go:70", after := #[{ on := 7, ground := Ground.data }], guard := none }) (v := Value.int .i64 (IntKind.i64.wrap (6 + lv))) rfl (by kernel_rfl) (by kernel_rfl) (by kernel_rfl) (fun _ _ _ h => nomatch h.1) (Or.inl ⟨rfl, fun _ _ => by kernel_rfl⟩) hS ?_
    try simp only [Act.put, List.setIfInBounds_toArray, List.set_cons_zero, List.set_cons_succ]
    refine wpAnyH_take (i := 9) (oi := { dst := some 108, op := Op.move (Operand.tmp 9), type := 25, pos := "ref.go:70", after := #[], guard := none }) (v := Value.int .u64 su) rfl (by kernel_rfl) (by kernel_rfl) (by kernel_rfl) (fun _ _ _ h => nomatch h.1) (Or.inl ⟨rfl, fun _ _ => by kernel_rfl⟩) hS ?_
    try simp only [Act.put, List.setIfInBounds_toArray, List.set_cons_zero, List.set_cons_succ]
    refine wpAnyH_take (i := 10) (oi := { dst := some 109, op := Op.fieldAddr 46 (Operand.tmp 3) 0, type := 0, pos := "ref.go:70", after := #[], guard := none }) (v := Value.pointer (some ⟨b, 0, none⟩)) rfl (by kernel_rfl) (by kernel_rfl) (by kernel_rfl) (fun _ _ _ h => nomatch h.1) (Or.inl ⟨rfl, fun _ _ => by kernel_rfl⟩) hS ?_
    try simp only [Act.put, List.setIfInBounds_toArray, List.set_cons_zero, List.set_cons_succ]
    refine wpAnyH_take (i := 11) (oi := { dst := some 110, op := Op.load 25 (Operand.tmp 109), type := 25, pos := "ref.go:70", after := #[{ on := 10, ground := Ground.data }], guard := none }) (v := Value.int .u64 hh) rfl (by kernel_rfl) (by kernel_rfl) (by kernel_rfl) (fun _ _ _ h => nomatch h.1) (Or.inl ⟨rfl, fun w hSw => by have z := cell_of_blk hSw.1 (i := 0) (v := .int .u64 hh) k0; go_simp⟩) hS ?_
    try simp only [Act.put, List.setIfInBounds_toArray, List.set_cons_zero, List.set_cons_succ]
    refine wpAnyH_ready (rs := [5, 16]) (by kernel_rfl) (by simp) ?_
    refine AllReadyH.cons (o := { dst := some 104, op := Op.call { callee := Callee.value (Operand.func 36), args := #[Operand.tmp 101, Operand.tmp 103], argTypes := #[44, 3] }, type := 25, pos := "ref.go:70", after := #[{ on := 2, ground := Ground.data }, { on := 4, ground := Ground.data }], guard := none }) rfl (fun K hK => ?_) ?_
    · rw [if_pos (by rfl)]
      refine wp_calls 36 #[.agg A, .int .i64 lv] (by kernel_rfl) (fun v V => v = .int .u64 pr ∧ Kept [] W1 V) ((PRD.out _ (HK1.out)).mono fun e w' hh => ⟨_, hh.1, rfl, hh.2⟩) ?_
      rintro _ x1 ⟨rfl, K1⟩
      have q2 := Q2.new K1
      have j2 := (HK1.out).trans K1
      try simp only [Act.put, List.setIfInBounds_toArray, List.set_cons_zero, List.set_cons_succ]
      refine hK.out _ _ (⟨q2.r.f, q2.r.m⟩) (fun hS => ?_)
      clear hK K
      refine wpAnyH_ready (rs := [12, 16]) (by kernel_rfl) (by simp) ?_
      refine AllReadyH.cons (o := { dst := some 111, op := Op.call { callee := Callee.value (Operand.func 35), args := #[Operand.tmp 99, Operand.tmp 104, Operand.tmp 107, Operand.tmp 108, Operand.tmp 110], argTypes := #[35, 25, 3, 25, 25] }, type := 93, pos := "ref.go:70", after := #[{ on := 0, ground := Ground.data }, { on := 5, ground := Ground.data }, { on := 8, ground := Ground.data }, { on := 9, ground := Ground.data }, { on := 11, ground := Ground.data }, { on := 5, ground := Ground.chain }], guard := none }) rfl (fun K hK => ?_) ?_
      · rw [if_pos (by rfl)]
        refine wp_calls 35 #[.agg M, .int .u64 pr, .int .i64 (IntKind.i64.wrap (6 + lv)), .int .u64 su, .int .u64 hh] (by kernel_rfl) (fun v V => ∃ B, v = .tuple #[.agg B, .bool IS] ∧ Wv x1 g c n CS (cnt + 1) AC B V ∧ Kept [] x1 V) ((HC.out _ q2.r.k).mono fun e w' ⟨B, h1, h2, h3⟩ => ⟨_, h1, B, rfl, h2, h3⟩) ?_
        rintro _ x3 ⟨B, rfl, V3, K3⟩
        have v3 := V3.old (w := w) q2.r.k.size
        have q4 := q2.new K3
        have j4 := (j2).trans K3
        try simp only [Act.put, List.setIfInBounds_toArray, List.set_cons_zero, List.set_cons_succ]
        refine hK.out _ _ (⟨q4.r.f, q4.r.m⟩) (fun hS => ?_)
        clear hK K
        refine wpAnyH_take (i := 13) (oi := { dst := some 98, op := Op.move (Operand.tmp 111), type := 93, pos := "ref.go:70", after := #[{ on := 12, ground := Ground.data }], guard := none }) (v := Value.tuple #[.agg B, .bool IS]) rfl (by kernel_rfl) (by kernel_rfl) (by kernel_rfl) (fun _ _ _ h => nomatch h.1) (Or.inl ⟨rfl, fun _ _ => by kernel_rfl⟩) hS ?_
        try simp only [Act.put, List.setIfInBounds_toArray, List.set_cons_zero, List.set_cons_succ]
        refine wpAnyH_take (i := 14) (oi := { dst := some 112, op := Op.extract (Operand.tmp 98) 0, type := 35, pos := "ref.go:70", after := #[{ on := 13, ground := Ground.data }], guard := none }) (v := Value.agg B) rfl (by kernel_rfl) (by kernel_rfl) (by kernel_rfl) (fun _ _ _ h => nomatch h.1) (Or.inl ⟨rfl, fun _ _ => by kernel_rfl⟩) hS ?_
        try simp only [Act.put, List.setIfInBounds_toArray, List.set_cons_zero, List.set_cons_succ]
        refine wpAnyH_take (i := 15) (oi := { dst := some 113, op := Op.extract (Operand.tmp 98) 1, type := 4, pos := "ref.go:70", after := #[{ on := 13, ground := Ground.data }, { on := 17, ground := Ground.gcOnly Departure.lateStores }], guard := none }) (v := Value.bool IS) rfl (by kernel_rfl) (by kernel_rfl) (by kernel_rfl) (fun _ _ _ h => nomatch h.1) (Or.inl ⟨rfl, fun _ _ => by kernel_rfl⟩) hS ?_
        try simp only [Act.put, List.setIfInBounds_toArray, List.set_cons_zero, List.set_cons_succ]
        refine wpAnyH_ready (rs := [16]) (by kernel_rfl) (by simp) ?_
        refine AllReadyH.cons (o := { dst := some 17, op := Op.alloc 35, type := 0, pos := "ref.go:70", after := #[], guard := none }) rfl (fun K hK => ?_) AllReadyH.nil
        rw [if_pos (by rfl)]
        refine wp_alloc_any 35 rmZ (by kernel_rfl) ?_
        intro d x5 D5 l5 K5
        have hd1 : b + 1 + 1 + 1 + 1 + 1 < d := by have := q4.r.z.lt; omega
        have q6 := q4.new K5
        have j6 := (j4).trans K5
        have v6 := v3.new K5
        try simp only [Act.put, List.setIfInBounds_toArray, List.set_cons_zero, List.set_cons_succ]
        refine hK.out _ _ (⟨q6.r.f, q6.r.m⟩) (fun hS => ?_)
        clear hK K
        refine wpAnyH_ready (rs := [17]) (by kernel_rfl) (by simp) ?_
        refine AllReadyH.cons (o := { dst := none, op := Op.store 35 (Operand.tmp 17) (Operand.tmp 112), type := 0, pos := "ref.go:70", after := #[{ on := 16, ground := Ground.data }, { on := 14, ground := Ground.data }, { on := 12, ground := Ground.chain }, { on := 0, ground := Ground.phase }, { on := 1, ground := Ground.phase }, { on := 2, ground := Ground.phase }, { on := 3, ground := Ground.phase }, { on := 4, ground := Ground.phase }, { on := 5, ground := Ground.phase }, { on := 6, ground := Ground.phase }, { on := 7, ground := Ground.phase }, { on := 8, ground := Ground.phase }, { on := 9, ground := Ground.phase }, { on := 10, ground := Ground.phase }, { on := 11, ground := Ground.phase }, { on := 12, ground := Ground.phase }, { on := 13, ground := Ground.phase }, { on := 14, ground := Ground.phase }, { on := 15, ground := Ground.textOnly Departure.lateStores }, { on := 16, ground := Ground.phase }], guard := none }) rfl (fun K hK => ?_) AllReadyH.nil
        rw [if_pos (by rfl)]
        have sB := v6.size
        have oB := v6.allOne
        refine wp_store_row 35 (.tmp 17) (.tmp 112) rfl d B rfl rfl 35 rmZ D5 (by rw [isT_rm.1, sB]) (by rw [sB]; rfl) oB ?_
        simp only [Act.put]
        refine hK.out _ _ (⟨q6.r.f.rowOther B (c := d) (by omega), q6.r.m.rowOther B (c := d) (by omega)⟩) (fun hS => ?_)
        clear hK K
        refine wpAnyH_take (i := 18) (oi := { dst := some 18, op := Op.assign (Operand.tmp 113), type := 4, pos := "ref.go:70", after := #[{ on := 15, ground := Ground.data }, { on := 17, ground := Ground.chain }, { on := 0, ground := Ground.phase }, { on := 1, ground := Ground.phase }, { on := 2, ground := Ground.phase }, { on := 3, ground := Ground.phase }, { on := 4, ground := Ground.phase }, { on := 5, ground := Ground.phase }, { on := 6, ground := Ground.phase }, { on := 7, ground := Ground.phase }, { on := 8, ground := Ground.phase }, { on := 9, ground := Ground.phase }, { on := 10, ground := Ground.phase }, { on := 11, ground := Ground.phase }, { on := 12, ground := Ground.phase }, { on := 13, ground := Ground.phase }, { on := 14, ground := Ground.phase }, { on := 15, ground := Ground.phase }, { on := 16, ground := Ground.phase }, { on := 17, ground := Ground.phase }], guard := none }) (v := Value.bool IS) rfl (by kernel_rfl) (by kernel_rfl) (by kernel_rfl) (fun _ _ _ h => nomatch h.1) (Or.inl ⟨rfl, fun _ _ => by kernel_rfl⟩) hS ?_
        try simp only [Act.put, List.setIfInBounds_toArray, List.set_cons_zero, List.set_cons_succ]
        refine wpAnyH_done (by kernel_rfl) ?_ _
        have DF := D5.row B
        have kd := k_row x5 d B
        exact ⟨rfl, d, B, rfl, ⟨q6.r.far hd1 B, q6.f.far1 D5 (by decide) kd, DF, v6.one D5 (by decide) kd, Or.inr hd1⟩⟩
      refine AllReadyH.cons (o := { dst := some 17, op := Op.alloc 35, type := 0, pos := "ref.go:70", after := #[], guard := none }) rfl (fun K hK => ?_) AllReadyH.nil
      rw [if_pos (by rfl)]
      refine wp_alloc_any 35 rmZ (by kernel_rfl) ?_
      intro d x7 D7 l7 K7
      have hd1 : b + 1 + 1 + 1 + 1 + 1 < d := by have := q2.r.z.lt; omega
      have q8 := q2.new K7
      have j8 := (j2).trans K7
      try simp only [Act.put, List.setIfInBounds_toArray, List.set_cons_zero, List.set_cons_succ]
      refine hK.out _ _ (⟨q8.r.f, q8.r.m⟩) (fun hS => ?_)
      clear hK K
      refine wpAnyH_ready (rs := [12]) (by kernel_rfl) (by simp) ?_
      refine AllReadyH.cons (o := { dst := some 111, op := Op.call { callee := Callee.value (Operand.func 35), args := #[Operand.tmp 99, Operand.tmp 104, Operand.tmp 107, Operand.tmp 108, Operand.tmp 110], argTypes := #[35, 25, 3, 25, 25] }, type := 93, pos := "ref.go:70", after := #[{ on := 0, ground := Ground.data }, { on := 5, ground := Ground.data }, { on := 8, ground := Ground.data }, { on := 9, ground := Ground.data }, { on := 11, ground := Ground.data }, { on := 5, ground := Ground.chain }], guard := none }) rfl (fun K hK => ?_) AllReadyH.nil
      rw [if_pos (by rfl)]
      refine wp_calls 35 #[.agg M, .int .u64 pr, .int .i64 (IntKind.i64.wrap (6 + lv)), .int .u64 su, .int .u64 hh] (by kernel_rfl) (fun v V => ∃ B, v = .tuple #[.agg B, .bool IS] ∧ Wv x7 g c n CS (cnt + 1) AC B V ∧ Kept [] x7 V) ((HC.out _ q8.r.k).mono fun e w' ⟨B, h1, h2, h3⟩ => ⟨_, h1, B, rfl, h2, h3⟩) ?_
      rintro _ x9 ⟨B, rfl, V9, K9⟩
      have v9 := V9.old (w := w) q8.r.k.size
      have q10 := q8.new K9
      have j10 := (j8).trans K9
      have D10 := D7.kept K9 (by simp)
      try simp only [Act.put, List.setIfInBounds_toArray, List.set_cons_zero, List.set_cons_succ]
      refine hK.out _ _ (⟨q10.r.f, q10.r.m⟩) (fun hS => ?_)
      clear hK K
      refine wpAnyH_take (i := 13) (oi := { dst := some 98, op := Op.move (Operand.tmp 111), type := 93, pos := "ref.go:70", after := #[{ on := 12, ground := Ground.data }], guard := none }) (v := Value.tuple #[.agg B, .bool IS]) rfl (by kernel_rfl) (by kernel_rfl) (by kernel_rfl) (fun _ _ _ h => nomatch h.1) (Or.inl ⟨rfl, fun _ _ => by kernel_rfl⟩) hS ?_
      try simp only [Act.put, List.setIfInBounds_toArray, List.set_cons_zero, List.set_cons_succ]
      refine wpAnyH_take (i := 14) (oi := { dst := some 112, op := Op.extract (Operand.tmp 98) 0, type := 35, pos := "ref.go:70", after := #[{ on := 13, ground := Ground.data }], guard := none }) (v := Value.agg B) rfl (by kernel_rfl) (by kernel_rfl) (by kernel_rfl) (fun _ _ _ h => nomatch h.1) (Or.inl ⟨rfl, fun _ _ => by kernel_rfl⟩) hS ?_
      try simp only [Act.put, List.setIfInBounds_toArray, List.set_cons_zero, List.set_cons_succ]
      refine wpAnyH_take (i := 15) (oi := { dst := some 113, op := Op.extract (Operand.tmp 98) 1, type := 4, pos := "ref.go:70", after := #[{ on := 13, ground := Ground.data }, { on := 17, ground := Ground.gcOnly Departure.lateStores }], guard := none }) (v := Value.bool IS) rfl (by kernel_rfl) (by kernel_rfl) (by kernel_rfl) (fun _ _ _ h => nomatch h.1) (Or.inl ⟨rfl, fun _ _ => by kernel_rfl⟩) hS ?_
      try simp only [Act.put, List.setIfInBounds_toArray, List.set_cons_zero, List.set_cons_succ]
      refine wpAnyH_ready (rs := [17]) (by kernel_rfl) (by simp) ?_
      refine AllReadyH.cons (o := { dst := none, op := Op.store 35 (Operand.tmp 17) (Operand.tmp 112), type := 0, pos := "ref.go:70", after := #[{ on := 16, ground := Ground.data }, { on := 14, ground := Ground.data }, { on := 12, ground := Ground.chain }, { on := 0, ground := Ground.phase }, { on := 1, ground := Ground.phase }, { on := 2, ground := Ground.phase }, { on := 3, ground := Ground.phase }, { on := 4, ground := Ground.phase }, { on := 5, ground := Ground.phase }, { on := 6, ground := Ground.phase }, { on := 7, ground := Ground.phase }, { on := 8, ground := Ground.phase }, { on := 9, ground := Ground.phase }, { on := 10, ground := Ground.phase }, { on := 11, ground := Ground.phase }, { on := 12, ground := Ground.phase }, { on := 13, ground := Ground.phase }, { on := 14, ground := Ground.phase }, { on := 15, ground := Ground.textOnly Departure.lateStores }, { on := 16, ground := Ground.phase }], guard := none }) rfl (fun K hK => ?_) AllReadyH.nil
      rw [if_pos (by rfl)]
      have sB := v9.size
      have oB := v9.allOne
      refine wp_store_row 35 (.tmp 17) (.tmp 112) rfl d B rfl rfl 35 rmZ D10 (by rw [isT_rm.1, sB]) (by rw [sB]; rfl) oB ?_
      simp only [Act.put]
      refine hK.out _ _ (⟨q10.r.f.rowOther B (c := d) (by omega), q10.r.m.rowOther B (c := d) (by omega)⟩) (fun hS => ?_)
      clear hK K
      refine wpAnyH_take (i := 18) (oi := { dst := some 18, op := Op.assign (Operand.tmp 113), type := 4, pos := "ref.go:70", after := #[{ on := 15, ground := Ground.data }, { on := 17, ground := Ground.chain }, { on := 0, ground := Ground.phase }, { on := 1, ground := Ground.phase }, { on := 2, ground := Ground.phase }, { on := 3, ground := Ground.phase }, { on := 4, ground := Ground.phase }, { on := 5, ground := Ground.phase }, { on := 6, ground := Ground.phase }, { on := 7, ground := Ground.phase }, { on := 8, ground := Ground.phase }, { on := 9, ground := Ground.phase }, { on := 10, ground := Ground.phase }, { on := 11, ground := Ground.phase }, { on := 12, ground := Ground.phase }, { on := 13, ground := Ground.phase }, { on := 14, ground := Ground.phase }, { on := 15, ground := Ground.phase }, { on := 16, ground := Ground.phase }, { on := 17, ground := Ground.phase }], guard := none }) (v := Value.bool IS) rfl (by kernel_rfl) (by kernel_rfl) (by kernel_rfl) (fun _ _ _ h => nomatch h.1) (Or.inl ⟨rfl, fun _ _ => by kernel_rfl⟩) hS ?_
      try simp only [Act.put, List.setIfInBounds_toArray, List.set_cons_zero, List.set_cons_succ]
      refine wpAnyH_done (by kernel_rfl) ?_ _
      have DF := D10.row B
      have kd := k_row x9 d B
      exact ⟨rfl, d, B, rfl, ⟨q10.r.far hd1 B, q10.f.far1 D10 (by decide) kd, DF, v9.one D10 (by decide) kd, Or.inr hd1⟩⟩
    refine AllReadyH.cons (o := { dst := some 17, op := Op.alloc 35, type := 0, pos := "ref.go:70", after := #[], guard := none }) rfl (fun K hK => ?_) AllReadyH.nil
    rw [if_pos (by rfl)]
    refine wp_alloc_any 35 rmZ (by kernel_rfl) ?_
    intro d x11 D11 l11 K11
    have hd1 : b + 1 + 1 + 1 + 1 + 1 < d := by have := Q2.r.z.lt; omega
    have q12 := Q2.new K11
    have j12 := (HK1.out).trans K11
    try simp only [Act.put, List.setIfInBounds_toArray, List.set_cons_zero, List.set_cons_succ]
    refine hK.out _ _ (⟨q12.r.f, q12.r.m⟩) (fun hS => ?_)
    clear hK K
    refine wpAnyH_ready (rs := [5]) (by kernel_rfl) (by simp) ?_
    refine AllReadyH.cons (o := { dst := some 104, op := Op.call { callee := Callee.value (Operand.func 36), args := #[Operand.tmp 101, Operand.tmp 103], argTypes := #[44, 3] }, type := 25, pos := "ref.go:70", after := #[{ on := 2, ground := Ground.data }, { on := 4, ground := Ground.data }], guard := none }) rfl (fun K hK => ?_) AllReadyH.nil
    rw [if_pos (by rfl)]
    refine wp_calls 36 #[.agg A, .int .i64 lv] (by kernel_rfl) (fun v V => v = .int .u64 pr ∧ Kept [] x11 V) ((PRD.out _ (j12)).mono fun e w' hh => ⟨_, hh.1, rfl, hh.2⟩) ?_
    rintro _ x13 ⟨rfl, K13⟩
    have q14 := q12.new K13
    have j14 := (j12).trans K13
    have D14 := D11.kept K13 (by simp)
    try simp only [Act.put, List.setIfInBounds_toArray, List.set_cons_zero, List.set_cons_succ]
    refine hK.out _ _ (⟨q14.r.f, q14.r.m⟩) (fun hS => ?_)
    clear hK K
    refine wpAnyH_ready (rs := [12]) (by kernel_rfl) (by simp) ?_
    refine AllReadyH.cons (o := { dst := some 111, op := Op.call { callee := Callee.value (Operand.func 35), args := #[Operand.tmp 99, Operand.tmp 104, Operand.tmp 107, Operand.tmp 108, Operand.tmp 110], argTypes := #[35, 25, 3, 25, 25] }, type := 93, pos := "ref.go:70", after := #[{ on := 0, ground := Ground.data }, { on := 5, ground := Ground.data }, { on := 8, ground := Ground.data }, { on := 9, ground := Ground.data }, { on := 11, ground := Ground.data }, { on := 5, ground := Ground.chain }], guard := none }) rfl (fun K hK => ?_) AllReadyH.nil
    rw [if_pos (by rfl)]
    refine wp_calls 35 #[.agg M, .int .u64 pr, .int .i64 (IntKind.i64.wrap (6 + lv)), .int .u64 su, .int .u64 hh] (by kernel_rfl) (fun v V => ∃ B, v = .tuple #[.agg B, .bool IS] ∧ Wv x13 g c n CS (cnt + 1) AC B V ∧ Kept [] x13 V) ((HC.out _ q14.r.k).mono fun e w' ⟨B, h1, h2, h3⟩ => ⟨_, h1, B, rfl, h2, h3⟩) ?_
    rintro _ x15 ⟨B, rfl, V15, K15⟩
    have v15 := V15.old (w := w) q14.r.k.size
    have q16 := q14.new K15
    have j16 := (j14).trans K15
    have D16 := D14.kept K15 (by simp)
    try simp only [Act.put, List.setIfInBounds_toArray, List.set_cons_zero, List.set_cons_succ]
    refine hK.out _ _ (⟨q16.r.f, q16.r.m⟩) (fun hS => ?_)
    clear hK K
    refine wpAnyH_take (i := 13) (oi := { dst := some 98, op := Op.move (Operand.tmp 111), type := 93, pos := "ref.go:70", after := #[{ on := 12, ground := Ground.data }], guard := none }) (v := Value.tuple #[.agg B, .bool IS]) rfl (by kernel_rfl) (by kernel_rfl) (by kernel_rfl) (fun _ _ _ h => nomatch h.1) (Or.inl ⟨rfl, fun _ _ => by kernel_rfl⟩) hS ?_
    try simp only [Act.put, List.setIfInBounds_toArray, List.set_cons_zero, List.set_cons_succ]
    refine wpAnyH_take (i := 14) (oi := { dst := some 112, op := Op.extract (Operand.tmp 98) 0, type := 35, pos := "ref.go:70", after := #[{ on := 13, ground := Ground.data }], guard := none }) (v := Value.agg B) rfl (by kernel_rfl) (by kernel_rfl) (by kernel_rfl) (fun _ _ _ h => nomatch h.1) (Or.inl ⟨rfl, fun _ _ => by kernel_rfl⟩) hS ?_
    try simp only [Act.put, List.setIfInBounds_toArray, List.set_cons_zero, List.set_cons_succ]
    refine wpAnyH_take (i := 15) (oi := { dst := some 113, op := Op.extract (Operand.tmp 98) 1, type := 4, pos := "ref.go:70", after := #[{ on := 13, ground := Ground.data }, { on := 17, ground := Ground.gcOnly Departure.lateStores }], guard := none }) (v := Value.bool IS) rfl (by kernel_rfl) (by kernel_rfl) (by kernel_rfl) (fun _ _ _ h => nomatch h.1) (Or.inl ⟨rfl, fun _ _ => by kernel_rfl⟩) hS ?_
    try simp only [Act.put, List.setIfInBounds_toArray, List.set_cons_zero, List.set_cons_succ]
    refine wpAnyH_ready (rs := [17]) (by kernel_rfl) (by simp) ?_
    refine AllReadyH.cons (o := { dst := none, op := Op.store 35 (Operand.tmp 17) (Operand.tmp 112), type := 0, pos := "ref.go:70", after := #[{ on := 16, ground := Ground.data }, { on := 14, ground := Ground.data }, { on := 12, ground := Ground.chain }, { on := 0, ground := Ground.phase }, { on := 1, ground := Ground.phase }, { on := 2, ground := Ground.phase }, { on := 3, ground := Ground.phase }, { on := 4, ground := Ground.phase }, { on := 5, ground := Ground.phase }, { on := 6, ground := Ground.phase }, { on := 7, ground := Ground.phase }, { on := 8, ground := Ground.phase }, { on := 9, ground := Ground.phase }, { on := 10, ground := Ground.phase }, { on := 11, ground := Ground.phase }, { on := 12, ground := Ground.phase }, { on := 13, ground := Ground.phase }, { on := 14, ground := Ground.phase }, { on := 15, ground := Ground.textOnly Departure.lateStores }, { on := 16, ground := Ground.phase }], guard := none }) rfl (fun K hK => ?_) AllReadyH.nil
    rw [if_pos (by rfl)]
    have sB := v15.size
    have oB := v15.allOne
    refine wp_store_row 35 (.tmp 17) (.tmp 112) rfl d B rfl rfl 35 rmZ D16 (by rw [isT_rm.1, sB]) (by rw [sB]; rfl) oB ?_
    simp only [Act.put]
    refine hK.out _ _ (⟨q16.r.f.rowOther B (c := d) (by omega), q16.r.m.rowOther B (c := d) (by omega)⟩) (fun hS => ?_)
    clear hK K
    refine wpAnyH_take (i := 18) (oi := { dst := some 18, op := Op.assign (Operand.tmp 113), type := 4, pos := "ref.go:70", after := #[{ on := 15, ground := Ground.data }, { on := 17, ground := Ground.chain }, { on := 0, ground := Ground.phase }, { on := 1, ground := Ground.phase }, { on := 2, ground := Ground.phase }, { on := 3, ground := Ground.phase }, { on := 4, ground := Ground.phase }, { on := 5, ground := Ground.phase }, { on := 6, ground := Ground.phase }, { on := 7, ground := Ground.phase }, { on := 8, ground := Ground.phase }, { on := 9, ground := Ground.phase }, { on := 10, ground := Ground.phase }, { on := 11, ground := Ground.phase }, { on := 12, ground := Ground.phase }, { on := 13, ground := Ground.phase }, { on := 14, ground := Ground.phase }, { on := 15, ground := Ground.phase }, { on := 16, ground := Ground.phase }, { on := 17, ground := Ground.phase }], guard := none }) (v := Value.bool IS) rfl (by kernel_rfl) (by kernel_rfl) (by kernel_rfl) (fun _ _ _ h => nomatch h.1) (Or.inl ⟨rfl, fun _ _ => by kernel_rfl⟩) hS ?_
    try simp only [Act.put, List.setIfInBounds_toArray, List.set_cons_zero, List.set_cons_succ]
    refine wpAnyH_done (by kernel_rfl) ?_ _
    have DF := D16.row B
    have kd := k_row x15 d B
    exact ⟨rfl, d, B, rfl, ⟨q16.r.far hd1 B, q16.f.far1 D16 (by decide) kd, DF, v15.one D16 (by decide) kd, Or.inr hd1⟩⟩
  · rintro a' W4 ⟨d, B, rfl, Q4⟩
    simp only [Act.put, List.setIfInBounds_toArray, List.set_cons_zero, List.set_cons_succ]
    have sB := Q4.v.size
    have oB := Q4.v.allOne
    have HV4 := hidOf Q4
    clear Q4 Q1 Q2 HC PRD u44 i44 lenA HMD HA
    cases IS with
    | true =>
      have p3 := cell_of_blk HV4.out.r.f (i := 3) k3
      have pf := free_of_blk HV4.out.r.f
      have pl := lt_of_blk HV4.out.r.f
      have HV3 := hidOf (HV4.out.lv (lv + 1))
      go_upto_region 31 with (fail)
      refine gen_world (fun V => V6 w V b d base g c n { s with lv := lv + 1 } CS (cnt + 1) AC (X.setIfInBounds 3 (.int .i64 (lv + 1))) M B (rgA gs)) HV3.out ?_
      clear HV3 HV4 p3 pf pl
      rintro W5 Q5
      generalize X.setIfInBounds 3 (.int .i64 (lv + 1)) = X5 at Q5 ⊢
      have sX5 := Q5.f.size
      have LK := hidOf (fun (Y : World) (k : Kept [] W5.drew Y) => rlook_any (c := c) (Q5.f.new ((Kept.refl [] W5).drew.trans k)) Q5.v.size Q5.v.cells.1 hd ⟨by show s.f.ss.length ≤ 1000; have := bi.fi.ss; have := bi.fi.dn; have := HN_eq HR1.out; have := HR1.out.h1; omega, by show s.f.ks.length ≤ 1000; have := bi.fi.ks; have := bi.fi.dn; have := HN_eq HR1.out; have := HR1.out.h1; omega⟩)
      have HV5 := hidOf Q5
      clear Q5
      refine wp_region_held_drew (S := fun w' => RW 46 w' b X5 ∧ RW 35 w' d B ∧ RW 49 w' (b + 1 + 1) (rgA gs)) (by kernel_rfl) ⟨HV5.out.r.f, HV5.out.m, HV5.out.r.g⟩ (fun hS => ?_)
      refine wpAnyH_take (i := 0) (oi := { dst := some 128, op := Op.load 46 (Operand.tmp 3), type := 46, pos := "ref.go:77", after := #[], guard := none }) (v := Value.agg X5) rfl (by kernel_rfl) (by kernel_rfl) (by kernel_rfl) (fun _ _ _ h => h) (yieldsIf_load_rw rfl 46 isT_rb (.tmp 3) rfl b rfl X5 sX5 (fun _ h => h.1)) hS ?_
      try simp only [Act.put, List.setIfInBounds_toArray, List.set_cons_zero, List.set_cons_succ]
      refine wpAnyH_take (i := 1) (oi := { dst := some 129, op := Op.load 35 (Operand.tmp 17), type := 35, pos := "ref.go:77", after := #[], guard := none }) (v := Value.agg B) rfl (by kernel_rfl) (by kernel_rfl) (by kernel_rfl) (fun _ _ _ h => h) (yieldsIf_load_rw rfl 35 isT_rm (.tmp 17) rfl d rfl B sB (fun _ h => h.2.1)) hS ?_
      try simp only [Act.put, List.setIfInBounds_toArray, List.set_cons_zero, List.set_cons_succ]
      refine wpAnyH_take (i := 3) (oi := { dst := some 131, op := Op.load 35 (Operand.tmp 17), type := 35, pos := "ref.go:77", after := #[{ on := 5, ground := Ground.gcOnly Departure.lateStores }], guard := none }) (v := Value.agg B) rfl (by kernel_rfl) (by kernel_rfl) (by kernel_rfl) (fun _ _ _ h => h) (yieldsIf_load_rw rfl 35 isT_rm (.tmp 17) rfl d rfl B sB (fun _ h => h.2.1)) hS ?_
      try simp only [Act.put, List.setIfInBounds_toArray, List.set_cons_zero, List.set_cons_succ]
      refine wpAnyH_take (i := 4) (oi := { dst := some 132, op := Op.load 49 (Operand.tmp 5), type := 49, pos := "ref.go:77", after := #[{ on := 6, ground := Ground.gcOnly Departure.lateStores }], guard := none }) (v := Value.agg (rgA gs)) rfl (by kernel_rfl) (by kernel_rfl) (by kernel_rfl) (fun _ _ _ h => h) (yieldsIf_load_rw rfl 49 isT_rg (.tmp 5) rfl (b + 1 + 1) rfl (rgA gs) rfl (fun _ h => h.2.2)) hS ?_
      try simp only [Act.put, List.setIfInBounds_toArray, List.set_cons_zero, List.set_cons_succ]
      refine wpAnyH_ready (rs := [2]) (by kernel_rfl) (by simp) ?_
      refine AllReadyH.cons (o := { dst := some 130, op := Op.call { callee := Callee.value (Operand.func 32), args := #[Operand.tmp 128, Operand.tmp 129], argTypes := #[46, 35] }, type := 46, pos := "ref.go:77", after := #[{ on := 0, ground := Ground.data }, { on := 1, ground := Ground.data }], guard := none }) rfl (fun K hK => ?_) AllReadyH.nil
      rw [if_pos (by rfl)]
      refine wp_calls 32 #[.agg X5, .agg B] (by kernel_rfl) (fun v V => ∃ Y, v = .agg Y ∧ RB base V (({ s with lv := lv + 1 } : Bm).look c) Y ∧ Kept [] W5.drew V) ((LK.out _ (Kept.refl _ _)).mono fun e w' ⟨Y, h1, h2, h3⟩ => ⟨_, h1, Y, rfl, h2, h3⟩) ?_
      rintro _ W6 ⟨Y, rfl, RY, K6⟩
      have Q6' := HV5.out.new ((Kept.refl [] W5).drew.trans K6)
      have sY := RY.size
      have oY := RY.one
      have dne : ¬ d = (b + 1 + 1 + 1) ∧ ¬ d = (b + 1 + 1 + 1 + 1) ∧ ¬ d = (b + 1 + 1 + 1 + 1 + 1) := by have := Q6'.hd; omega
      have E6' := P6.ret2 Q6'.r RY Q6'.v (rgA gs)
      try simp only [Act.put, List.setIfInBounds_toArray, List.set_cons_zero, List.set_cons_succ]
      refine hK.out _ _ (⟨Q6'.r.f, Q6'.m, Q6'.r.g⟩) (fun hS => ?_)
      clear hK K
      refine wpAnyH_ready (rs := [5]) (by kernel_rfl) (by simp) ?_
      refine AllReadyH.cons (o := { dst := none, op := Op.store 46 (Operand.tmp 6) (Operand.tmp 130), type := 0, pos := "ref.go:77", after := #[{ on := 2, ground := Ground.data }, { on := 2, ground := Ground.chain }, { on := 0, ground := Ground.phase }, { on := 1, ground := Ground.phase }, { on := 2, ground := Ground.phase }, { on := 3, ground := Ground.textOnly Departure.lateStores }, { on := 4, ground := Ground.textOnly Departure.lateStores }], guard := none }) rfl (fun K hK => ?_) AllReadyH.nil
      rw [if_pos (by rfl)]
      refine wp_store_row 46 (.tmp 6) (.tmp 130) rfl (b + 1 + 1 + 1) Y rfl rfl 46 rbZ Q6'.r.x (by rw [isT_rb.1, sY]) (by rw [sY]; rfl) oY ?_
      simp only [Act.put]
      refine hK.out _ _ (⟨Q6'.r.f.rowOther Y (by omega), Q6'.m.rowOther Y dne.1, Q6'.r.g.rowOther Y (by omega)⟩) (fun hS => ?_)
      clear hK K
      refine wpAnyH_ready (rs := [6]) (by kernel_rfl) (by simp) ?_
      refine AllReadyH.cons (o := { dst := none, op := Op.store 35 (Operand.tmp 7) (Operand.tmp 131), type := 0, pos := "ref.go:77", after := #[{ on := 3, ground := Ground.data }, { on := 5, ground := Ground.chain }, { on := 0, ground := Ground.phase }, { on := 1, ground := Ground.phase }, { on := 2, ground := Ground.phase }, { on := 3, ground := Ground.phase }, { on := 4, ground := Ground.textOnly Departure.lateStores }, { on := 5, ground := Ground.phase }], guard := none }) rfl (fun K hK => ?_) AllReadyH.nil
      rw [if_pos (by rfl)]
      refine wp_store_row 35 (.tmp 7) (.tmp 131) rfl (b + 1 + 1 + 1 + 1) B rfl rfl 35 rmZ (Q6'.r.y.rowOther Y (by omega)) (by rw [isT_rm.1, sB]) (by rw [sB]; rfl) oB ?_
      simp only [Act.put]
      refine hK.out _ _ (⟨(Q6'.r.f.rowOther Y (by omega)).rowOther B (by omega), (Q6'.m.rowOther Y dne.1).rowOther B dne.2.1, (Q6'.r.g.rowOther Y (by omega)).rowOther B (by omega)⟩) (fun hS => ?_)
      clear hK K
      refine wpAnyH_ready (rs := [7]) (by kernel_rfl) (by simp) ?_
      refine AllReadyH.cons (o := { dst := none, op := Op.store 49 (Operand.tmp 8) (Operand.tmp 132), type := 0, pos := "ref.go:77", after := #[{ on := 4, ground := Ground.data }, { on := 6, ground := Ground.chain }, { on := 0, ground := Ground.phase }, { on := 1, ground := Ground.phase }, { on := 2, ground := Ground.phase }, { on := 3, ground := Ground.phase }, { on := 4, ground := Ground.phase }, { on := 5, ground := Ground.phase }, { on := 6, ground := Ground.phase }], guard := none }) rfl (fun K hK => ?_) AllReadyH.nil
      rw [if_pos (by rfl)]
      refine wp_store_row 49 (.tmp 8) (.tmp 132) rfl (b + 1 + 1 + 1 + 1 + 1) (rgA gs) rfl rfl 49 rgZ ((Q6'.r.z.rowOther Y (by omega)).rowOther B (by omega)) (by rw [isT_rg.1]; rfl) rfl (rg_one _) ?_
      simp only [Act.put]
      refine hK.out _ _ (⟨((Q6'.r.f.rowOther Y (by omega)).rowOther B (by omega)).rowOther (rgA gs) (by omega), ((Q6'.m.rowOther Y dne.1).rowOther B dne.2.1).rowOther (rgA gs) dne.2.2, ((Q6'.r.g.rowOther Y (by omega)).rowOther B (by omega)).rowOther (rgA gs) (by omega)⟩) (fun hS => ?_)
      clear hK K
      refine wpAnyH_done (by kernel_rfl) ?_ _
      clear hS HV5
      go_wp2
      refine bodyPost_ret (v := .tuple #[.agg Y, .agg B, .agg (rgA gs)]) (results_rw3 Tryz.results12 isT_rb isT_rm isT_rg _ _ (b + 1 + 1 + 1) (b + 1 + 1 + 1 + 1) (b + 1 + 1 + 1 + 1 + 1) Y B (rgA gs) sY sB rfl rfl rfl rfl E6'.x E6'.y E6'.z) rfl ⟨_, _, rfl, (by rw [HQS.out]; (first | rw [if_pos rfl] | rw [if_pos trivial]); rw [← HE.out.2]; exact E6'.f), E6'.v, E6'.k⟩
    | false =>
      have FN : Hid (∃ NF, NF.size = 12 ∧ NF.all (·.oneCell') = true ∧ (∀ W, RF base W (fmS s.k) NF) ∧ ∀ W, Calls Tryz.prog 27 #[.int .u64 s.k] W fun e w' => e = .returned (.agg NF) ∧ Kept [] W w') := hidOf ⟨_, rfl, rf_one _ _ _ _ _ _ _ _ _ _, fun W => RF.anew base W ⟨s.k, 0, 0, 0, 0, 0, 0, [], [], [], 0, false⟩ 0, fun W => rfnew_any s.k W⟩
      obtain ⟨NF, sN, oN, RN, CN⟩ := FN.out
      have HRN := hidOf RN
      have HCN := hidOf CN
      clear FN RN CN
      have p1 := cell_of_blk HV4.out.r.f (i := 1) k1
      have pl := lt_of_blk HV4.out.r.f
      go_wp2_with fail
      refine (HCN.out _).mono ?_
      rintro e w5 ⟨rfl, K5⟩
      have HV5 := hidOf (HV4.out.new K5)
      obtain ⟨A3, -, len3, MD3⟩ := HV5.out.f.mid
      have TH : w5.there b 5 NF.size := by rw [sN]; exact (MD3 w5 b 46 HV5.out.r.f).2
      have i44 : (Tryz.prog.info? 44).map (·.size) = some NF.size := by rw [isT_rf.1, sN]
      clear HV4 K5 p1 pl MD3 len3
      go_upto_region 28 with (first
    | ((with_reducible change wpList _ _ _ (Oper.mk _ (Op.store 44 (Operand.tmp 119) _) _ _ _ _ :: _) _ _); refine wpList_store_mid rfl 44 (.tmp 119) (.tmp 118) rfl b 5 NF rfl rfl TH i44 oN ?_))
      refine gen_world (fun Y => V6 w Y b d base g c n { s with f := fmS s.k } CS (cnt + 1) AC (setFrom X 5 NF.toList) M B (rgA gs)) (HV5.out.cells (HRN.out w5)) ?_
      clear HV5 TH
      rintro W5 Q5
      generalize setFrom X 5 NF.toList = X5 at Q5 ⊢
      have k4' := Q5.f.cells.2.2.2.2.1
      have p4 := cell_of_blk Q5.r.f (i := 4) k4'
      have pf := free_of_blk Q5.r.f
      have pl := lt_of_blk Q5.r.f
      have HV6 := hidOf (Q5.nx 0)
      clear Q5
      go_upto_region 29 with (fail)
      refine gen_world (fun V => V6 w V b d base g c n { s with nx := 0, f := fmS s.k } CS (cnt + 1) AC (X5.setIfInBounds 4 (.int .i64 ((0 : Nat) : Int))) M B (rgA gs)) HV6.out ?_
      clear HV6 p4 pf pl k4'
      rintro W7 Q7
      generalize X5.setIfInBounds 4 (.int .i64 ((0 : Nat) : Int)) = Y at Q7 ⊢
      go_upto_region 29 with (fail)
      refine wp_ret3 isT_rb isT_rm isT_rg (by kernel_rfl) (by kernel_rfl) (by kernel_rfl) (fun _ _ _ _ _ h => h) b d (b + 1 + 1) (b + 1 + 1 + 1) (b + 1 + 1 + 1 + 1) (b + 1 + 1 + 1 + 1 + 1) Y B (rgA gs) rbZ rmZ rgZ Q7.f.size Q7.v.size rfl Q7.f.one Q7.v.allOne (rg_one _) rfl rfl rfl Q7.r.f Q7.m Q7.r.g Q7.r.x Q7.r.y Q7.r.z (by omega) (by have := Q7.hd; omega) (by omega) (by omega) rfl rfl rfl rfl rfl rfl rfl rfl rfl ?_
      simp only [Act.put, List.setIfInBounds_toArray, List.set_cons_zero, List.set_cons_succ]
      have EE := Q7.ret
      have sx := Q7.f.size
      have sm := Q7.v.size
      go_wp2
      refine bodyPost_ret (v := .tuple #[.agg Y, .agg B, .agg (rgA gs)]) (results_rw3 Tryz.results12 isT_rb isT_rm isT_rg _ _ (b + 1 + 1 + 1) (b + 1 + 1 + 1 + 1) (b + 1 + 1 + 1 + 1 + 1) Y B (rgA gs) sx sm rfl rfl rfl rfl EE.x EE.y EE.z) rfl ⟨_, _, rfl, (by rw [HQS.out, if_neg (by decide)]; exact EE.f), EE.v, EE.k⟩
end K
end Go.Proofs.YtkjjieklccbmoaaGreatDoor
namespace Go.Proofs.YtkjjieklccbmoaaGreatDoor
open Go.RowKit (Grown Hid Below)
open Go.Deep
namespace K
set_option maxRecDepth 100000
/-- Any step of the document's build. -/
theorem rbstep_any {base g : Nat} {c : Cfg} {s : Bm} {X : Array Value} {gs : Gs} {cs : List Int} {cap : Nat} {cnt : Int} {w : World} (a : Acc) (S : SB base w g c s X gs cs cap cnt) :
    Calls Tryz.prog 12 #[.agg X, .agg (rmA c (some ⟨g, 0, none⟩) cs.length cap cnt a), .agg (rgA gs)] w fun e w' => ∃ Y B, e = .returned (.tuple #[.agg Y, .agg B, .agg (rgA (bG c gs s))]) ∧ RB base w' (bF c cs cnt gs s) Y ∧ Wv w g c cs.length (bC c cs gs s) (bN cnt s) (bA c cs gs s a) B w' ∧ Kept [] w w' := by
  cases hd : s.d with
  | true =>
    obtain ⟨e1, e2, e3, e4⟩ := bF_done (c := c) (cs := cs) (cnt := cnt) (g := gs) hd
    rw [e1, e2, e3, e4, show bA c cs gs s a = a from if_pos hd]
    exact rbsd_any a S hd
  | false =>
    rw [show bN cnt s = cnt + 1 from if_neg (by rw [hd]; decide)]
    rcases (by have := S.bi.nx; omega : s.nx = 0 ∨ s.nx = 1 ∨ s.nx = 2 ∨ s.nx = 3) with e | e | e | e
    · obtain ⟨e1, e2, e3⟩ := bF_0 (c := c) (cs := cs) (cnt := cnt) (g := gs) hd e
      rw [e1, e2, e3, show bA c cs gs s a = fA c cs gs s.f a by unfold bA; rw [if_neg (by rw [hd]; decide), e]; rfl]
      exact rbs0_any a S hd e
    · obtain ⟨e1, e2, e3⟩ := bF_1 (c := c) (cs := cs) (cnt := cnt) (g := gs) hd e
      rw [e1, e2, e3, show bA c cs gs s a = acV cs 1 (clV' c (ixV s.h) (6 + s.lv)) (plainV s.h) 0 0 by unfold bA; rw [if_neg (by rw [hd]; decide), e]; rfl]
      exact rbs1_any a S hd e
    · obtain ⟨e1, e2, e3⟩ := bF_2 (c := c) (cs := cs) (cnt := cnt) (g := gs) hd e
      rw [e1, e2, e3, show bA c cs gs s a = s.aS c cs by unfold bA; rw [if_neg (by rw [hd]; decide), e]; rfl]
      exact rbs2_any a S hd e
    · obtain ⟨e1, e2, e3⟩ := bF_3 (c := c) (cs := cs) (cnt := cnt) (g := gs) hd e
      rw [e1, e2, e3, show bA c cs gs s a = s.aL c cs by unfold bA; rw [if_neg (by rw [hd]; decide), e]; rfl]
      exact rbs3_any a S hd e
end K
end Go.Proofs.YtkjjieklccbmoaaGreatDoor
namespace Go.Proofs.YtkjjieklccbmoaaGreatDoor
open Go.RowKit (Grown Hid Below)
open Go.Deep
namespace K
set_option maxRecDepth 100000
def pkA (p : Pk) : Array Value := #[.int .i64 p.s, .int .i64 p.c, .int .u64 p.v]
theorem isT_pk : IsT 83 3 := ⟨by kernel_rfl, _, Tryz.underlying83⟩
set_option maxHeartbeats 2000000 in
theorem pokedRef_any (st ce v : Int) (c : Cfg) (g : Nat) (cs : List Int) (cap : Nat) (cnt : Int) (a : Acc) (w : World) (hR : RowR w g cs cap) (hl : cs.length ≤ 17592186044415) (c0 : 0 ≤ cnt) (c1 : cnt < 4611686018427387904) :
    Calls Tryz.prog 29 #[.agg (rmA c (some ⟨g, 0, none⟩) cs.length cap cnt a), .agg (pkA ⟨st, ce, v⟩)] w fun e w' =>
      ∃ g' c', e = .returned (.agg (rmA c (some ⟨g', 0, none⟩) cs.length c' (cnt + 1) (acV cs 2 ce 0 0 v))) ∧ (g' = g ∨ w.heap.size ≤ g') ∧ RowR w' g' (clV cs 2 ce 0 v) c' ∧ Kept [] w w' := by
  have hgl := hR.lt
  have HL := hidOf (fun W (k : Kept [] w W) => rstore_any g cs cap cnt a ce 0 v W (hR.kept k (by simp)) hl c0 c1)
  clear hR hl
  generalize acV cs 2 ce 0 0 v = AC at *
  generalize clV cs 2 ce 0 v = CC at *
  generalize cs.length = n at *
  obtain ⟨b, hb⟩ : ∃ b, b = w.heap.size := ⟨_, rfl⟩
  have ST := hidOf (three_new 35 83 35 w (rmA c (some ⟨g, 0, none⟩) n cap cnt a) (pkA ⟨st, ce, v⟩) rmZ hb)
  go_enter Tryz.func29, Tryz.ntmps29
  go_upto_region 1 with (fail)
  rw [← hb]
  refine gen_world (fun W => RW 35 W b (rmA c (some ⟨g, 0, none⟩) n cap cnt a) ∧ RW 83 W (b + 1) (pkA ⟨st, ce, v⟩) ∧ RW 35 W (b + 1 + 1) rmZ ∧ Kept [] w W) ST.out ?_
  have hbw : w.heap.size ≤ b := by omega
  clear ST hb
  rintro W ⟨B0, P0, C0, hk⟩
  refine wp_region_held_drew (S := fun w' => RW 35 w' b (rmA c (some ⟨g, 0, none⟩) n cap cnt a) ∧ RW 83 w' (b + 1) (pkA ⟨st, ce, v⟩) ∧ ∃ O, RW 35 w' (b + 1 + 1) O) (by kernel_rfl) ⟨B0, P0, _, C0⟩ (fun hS => ?_)
  have hk' : Kept [] w W.drew := hk.drew
  have B0' : RW 35 W.drew b (rmA c (some ⟨g, 0, none⟩) n cap cnt a) := B0
  have C0' : RW 35 W.drew (b + 1 + 1) rmZ := C0
  have P0' : RW 83 W.drew (b + 1) (pkA ⟨st, ce, v⟩) := P0
  clear hk B0 C0 P0
  generalize W.drew = W at hk' B0' C0' P0' hS ⊢
  have hk := hk'
  have B0 := B0'
  have C0 := C0'
  have P0 := P0'
  clear hk' B0' C0' P0'
  refine wpAnyH_take (i := 0) (oi := { dst := some 5, op := Op.fieldAddr 35 (Operand.tmp 2) 0, type := 0, pos := "law.go:46", after := #[], guard := none }) (v := Value.pointer (some ⟨b, 0, none⟩)) rfl (by kernel_rfl) (by kernel_rfl) (by kernel_rfl) (fun _ _ _ h => h) (Or.inl ⟨rfl, fun _ _ => by kernel_rfl⟩) hS ?_
  try simp only [Act.put, List.setIfInBounds_toArray, List.set_cons_zero, List.set_cons_succ]
  refine wpAnyH_take (i := 1) (oi := { dst := some 6, op := Op.load 23 (Operand.tmp 5), type := 23, pos := "law.go:46", after := #[{ on := 0, ground := Ground.data }], guard := none }) (v := Value.agg #[.int .i64 c.t, .int .i64 c.s, .int .i64 c.c, .int .i64 c.h, .int .i64 c.k, .int .i64 c.e, .int .i64 c.l]) rfl (by kernel_rfl) (by kernel_rfl) (by kernel_rfl) (fun _ _ _ h => h) (yieldsIf_load_mid (P := Tryz.prog) rfl 23 (.tmp 5) rfl b 0 rfl [.int .i64 c.t, .int .i64 c.s, .int .i64 c.c, .int .i64 c.h, .int .i64 c.k, .int .i64 c.e, .int .i64 c.l] _ (fun _ h => range_rm0 h.1) Tryz.underlying23 rfl (by kernel_rfl)) hS ?_
  try simp only [Act.put, List.setIfInBounds_toArray, List.set_cons_zero, List.set_cons_succ]
  refine wpAnyH_take (i := 2) (oi := { dst := some 7, op := Op.fieldAddr 35 (Operand.tmp 2) 1, type := 0, pos := "law.go:46", after := #[], guard := none }) (v := Value.pointer (some ⟨b, 7, none⟩)) rfl (by kernel_rfl) (by kernel_rfl) (by kernel_rfl) (fun _ _ _ h => h) (Or.inl ⟨rfl, fun _ _ => by kernel_rfl⟩) hS ?_
  try simp only [Act.put, List.setIfInBounds_toArray, List.set_cons_zero, List.set_cons_succ]
  refine wpAnyH_take (i := 3) (oi := { dst := some 8, op := Op.load 33 (Operand.tmp 7), type := 33, pos := "law.go:46", after := #[{ on := 2, ground := Ground.data }], guard := none }) (v := Value.agg #[.slice (some ⟨g, 0, none⟩) n cap, .int .i64 cnt, .int .i64 a.k, .int .i64 a.c, .int .u64 a.v, .int .u64 a.o, .int .u64 a.n, .bool a.d]) rfl (by kernel_rfl) (by kernel_rfl) (by kernel_rfl) (fun _ _ _ h => h) (yieldsIf_load_mid (P := Tryz.prog) rfl 33 (.tmp 7) rfl b 7 rfl [.slice (some ⟨g, 0, none⟩) n cap, .int .i64 cnt, .int .i64 a.k, .int .i64 a.c, .int .u64 a.v, .int .u64 a.o, .int .u64 a.n, .bool a.d] _ (fun _ h => range_rm7 h.1) Tryz.underlying33 rfl (by kernel_rfl)) hS ?_
  try simp only [Act.put, List.setIfInBounds_toArray, List.set_cons_zero, List.set_cons_succ]
  refine wpAnyH_take (i := 4) (oi := { dst := some 9, op := Op.fieldAddr 83 (Operand.tmp 3) 1, type := 0, pos := "law.go:46", after := #[], guard := none }) (v := Value.pointer (some ⟨b + 1, 1, none⟩)) rfl (by kernel_rfl) (by kernel_rfl) (by kernel_rfl) (fun _ _ _ h => h) (Or.inl ⟨rfl, fun _ _ => by kernel_rfl⟩) hS ?_
  try simp only [Act.put, List.setIfInBounds_toArray, List.set_cons_zero, List.set_cons_succ]
  refine wpAnyH_take (i := 5) (oi := { dst := some 10, op := Op.load 3 (Operand.tmp 9), type := 3, pos := "law.go:46", after := #[{ on := 4, ground := Ground.data }], guard := none }) (v := Value.int .i64 ce) rfl (by kernel_rfl) (by kernel_rfl) (by kernel_rfl) (fun _ _ _ h => h) (Or.inl ⟨rfl, fun w hSw => by have z := cell_of_blk hSw.2.1 (i := 1) (v := .int .i64 ce) rfl; go_simp⟩) hS ?_
  try simp only [Act.put, List.setIfInBounds_toArray, List.set_cons_zero, List.set_cons_succ]
  refine wpAnyH_take (i := 6) (oi := { dst := some 11, op := Op.fieldAddr 83 (Operand.tmp 3) 2, type := 0, pos := "law.go:46", after := #[], guard := none }) (v := Value.pointer (some ⟨b + 1, 2, none⟩)) rfl (by kernel_rfl) (by kernel_rfl) (by kernel_rfl) (fun _ _ _ h => h) (Or.inl ⟨rfl, fun _ _ => by kernel_rfl⟩) hS ?_
  try simp only [Act.put, List.setIfInBounds_toArray, List.set_cons_zero, List.set_cons_succ]
  refine wpAnyH_take (i := 7) (oi := { dst := some 12, op := Op.load 25 (Operand.tmp 11), type := 25, pos := "law.go:46", after := #[{ on := 6, ground := Ground.data }], guard := none }) (v := Value.int .u64 v) rfl (by kernel_rfl) (by kernel_rfl) (by kernel_rfl) (fun _ _ _ h => h) (Or.inl ⟨rfl, fun w hSw => by have z := cell_of_blk hSw.2.1 (i := 2) (v := .int .u64 v) rfl; go_simp⟩) hS ?_
  try simp only [Act.put, List.setIfInBounds_toArray, List.set_cons_zero, List.set_cons_succ]
  refine wpAnyH_ready (rs := [8]) (by kernel_rfl) (by simp) ?_
  refine AllReadyH.cons (o := { dst := some 13, op := Op.call { callee := Callee.value (Operand.func 58), args := #[Operand.tmp 8, Operand.tmp 10, Operand.const (Value.int IntKind.u64 0), Operand.tmp 12], argTypes := #[33, 3, 25, 25] }, type := 33, pos := "law.go:46", after := #[{ on := 3, ground := Ground.data }, { on := 5, ground := Ground.data }, { on := 7, ground := Ground.data }], guard := none }) rfl (fun K hK => ?_) AllReadyH.nil
  rw [if_pos (by rfl)]
  refine wp_calls 58 #[.agg #[.slice (some ⟨g, 0, none⟩) n cap, .int .i64 cnt, .int .i64 a.k, .int .i64 a.c, .int .u64 a.v, .int .u64 a.o, .int .u64 a.n, .bool a.d], .int .i64 ce, .int .u64 0, .int .u64 v] (by kernel_rfl) (fun v V => (∃ g' c', v = .agg #[.slice (some ⟨g', 0, none⟩) n c', .int .i64 (cnt + 1), .int .i64 AC.k, .int .i64 AC.c, .int .u64 AC.v, .int .u64 AC.o, .int .u64 AC.n, .bool AC.d] ∧ (g' = g ∨ W.heap.size ≤ g') ∧ RowR V g' CC c') ∧ Kept [] W V) ((HL.out _ hk).mono fun e w' ⟨g', c', h1, h2, h3, h4⟩ => ⟨_, h1, ⟨g', c', rfl, h2, h3⟩, h4⟩) ?_
  rintro _ w8 ⟨⟨g', c', rfl, h2, h3⟩, K8⟩
  have B8 := B0.kept K8 (by simp)
  have P8 := P0.kept K8 (by simp)
  have C8 := C0.kept K8 (by simp)
  try simp only [Act.put, List.setIfInBounds_toArray, List.set_cons_zero, List.set_cons_succ]
  refine hK.out _ _ (⟨B8, P8, _, C8⟩) (fun hS => ?_)
  clear hK K
  refine wpAnyH_take (i := 9) (oi := { dst := some 14, op := Op.build 35 #[(0, Operand.tmp 6), (1, Operand.tmp 13)], type := 35, pos := "law.go:46", after := #[{ on := 1, ground := Ground.data }, { on := 8, ground := Ground.data }], guard := none }) (v := Value.agg (rmA c (some ⟨g', 0, none⟩) n c' (cnt + 1) AC)) rfl (by kernel_rfl) (by kernel_rfl) (by kernel_rfl) (fun _ _ _ h => h) (Or.inl ⟨rfl, fun _ _ => by kernel_rfl⟩) hS ?_
  try simp only [Act.put, List.setIfInBounds_toArray, List.set_cons_zero, List.set_cons_succ]
  refine wpAnyH_ready (rs := [10]) (by kernel_rfl) (by simp) ?_
  refine AllReadyH.cons (o := { dst := none, op := Op.store 35 (Operand.tmp 4) (Operand.tmp 14), type := 0, pos := "law.go:46", after := #[{ on := 9, ground := Ground.data }, { on := 8, ground := Ground.chain }, { on := 0, ground := Ground.phase }, { on := 1, ground := Ground.phase }, { on := 2, ground := Ground.phase }, { on := 3, ground := Ground.phase }, { on := 4, ground := Ground.phase }, { on := 5, ground := Ground.phase }, { on := 6, ground := Ground.phase }, { on := 7, ground := Ground.phase }, { on := 8, ground := Ground.phase }, { on := 9, ground := Ground.phase }], guard := none }) rfl (fun K hK => ?_) AllReadyH.nil
  rw [if_pos (by rfl)]
  have o1 := C0.lt
  refine wp_store_row 35 (.tmp 4) (.tmp 14) rfl (b + 1 + 1) (rmA c (some ⟨g', 0, none⟩) n c' (cnt + 1) AC) rfl rfl 35 rmZ C8 (by rw [isT_rm.1]; rfl) rfl (rm_one _ _ _ _ _ _) ?_
  have D := C8.row (rmA c (some ⟨g', 0, none⟩) n c' (cnt + 1) AC)
  simp only [Act.put]
  refine hK.out _ _ (⟨B8.rowOther _ (by omega), P8.rowOther _ (by omega), _, D⟩) (fun hS => ?_)
  clear hK K
  refine wpAnyH_done (by kernel_rfl) ?_ _
  go_wp2
  refine bodyPost_ret (v := .agg (rmA c (some ⟨g', 0, none⟩) n c' (cnt + 1) AC)) ?_ rfl ⟨g', c', rfl, ?_, ?_, ?_⟩
  · obtain ⟨fs, hu⟩ := isT_rm.2
    exact results_cell_row Tryz.results29 _ _ (b + 1 + 1) 35 _ (0, 0) _ rfl D hu rfl (by rw [isT_rm.1]; rfl)
  · have := hk.size; exact h2.imp id (fun h => by omega)
  · refine rowR_far (l := [b + 1 + 1]) (w := w) (W := W) h3 ((Kept.refl [b + 1 + 1] w8).setRow (Or.inl (by simp)) _) (by simp; omega) hgl h2
  · exact (hk.trans K8).setRow (Or.inr (by omega)) _
end K
end Go.Proofs.YtkjjieklccbmoaaGreatDoor
namespace Go.Proofs.YtkjjieklccbmoaaGreatDoor
open Go.RowKit (Grown Hid Below intOf)
open Go.Deep
namespace K
set_option maxRecDepth 100000
/-- Cells, how many accesses there were, and the last one. -/
structure Mst where
  cs : List Int
  n : Int
  a : Acc
def pkS (k : Int) (p : Pk) (x : Mst) : Mst := if p.s = k then ⟨clV x.cs 2 p.c 0 p.v, x.n + 1, acV x.cs 2 p.c 0 0 p.v⟩ else x
def pkF (k : Int) (ps : List Pk) (x : Mst) : Mst := ps.foldl (fun y p => pkS k p y) x
theorem pkS_len (k : Int) (p : Pk) (x : Mst) : (pkS k p x).cs.length = x.cs.length := by
  unfold pkS; split
  · show (clV x.cs 2 p.c 0 p.v).length = _
    unfold clV; split <;> simp
  · rfl
theorem pkS_n (k : Int) (p : Pk) (x : Mst) : x.n ≤ (pkS k p x).n ∧ (pkS k p x).n ≤ x.n + 1 := by
  unfold pkS; split
  · show x.n ≤ x.n + 1 ∧ x.n + 1 ≤ x.n + 1; omega
  · omega
theorem pkF_len (k : Int) : ∀ (ps : List Pk) (x : Mst), (pkF k ps x).cs.length = x.cs.length
  | [], _ => rfl
  | p :: ps, x => (pkF_len k ps (pkS k p x)).trans (pkS_len k p x)
theorem pkF_n (k : Int) : ∀ (ps : List Pk) (x : Mst), x.n ≤ (pkF k ps x).n ∧ (pkF k ps x).n ≤ x.n + ps.length
  | [], x => by show x.n ≤ x.n ∧ x.n ≤ x.n + ((0 : Nat) : Int); omega
  | p :: ps, x => by
    have h1 := pkF_n k ps (pkS k p x)
    have h2 := pkS_n k p x
    show x.n ≤ (pkF k ps (pkS k p x)).n ∧ (pkF k ps (pkS k p x)).n ≤ x.n + (((p :: ps).length : Nat) : Int)
    rw [List.length_cons]; omega
theorem pkF_next (k : Int) (ps : List Pk) (x : Mst) {i : Nat} (h : i < ps.length) : pkF k (ps.take (i + 1)) x = pkS k (ps.getD i pk0) (pkF k (ps.take i) x) := by
  unfold pkF
  rw [List.take_add_one, List.foldl_append]
  simp [h]
theorem pk_row {w : World} {ao : Option Addr} {ps : List Pk} (h : SlOf 3 pkL w ao ps) {k : Nat} (hk : k < ps.length) :
    ∃ b off, ao = some ⟨b, off, none⟩ ∧ b < w.heap.size ∧ w.cell? ⟨b, off + k * 3, none⟩ = some (.int .i64 (ps.getD k pk0).s) ∧ w.cell? ⟨b, off + k * 3 + 1, none⟩ = some (.int .i64 (ps.getD k pk0).c) ∧ w.cell? ⟨b, off + k * 3 + 2, none⟩ = some (.int .u64 (ps.getD k pk0).v) := by
  obtain ⟨b, off, rfl, hb, hc⟩ := h (by omega)
  have e : ps.getD k pk0 = ps[k] := by simp [hk]
  rw [e]
  exact ⟨b, off, rfl, hb, hc k hk 0 _ rfl, hc k hk 1 _ rfl, hc k hk 2 _ rfl⟩
set_option maxHeartbeats 4000000 in
theorem poked_any (m p r g : Nat) (c : Cfg) (x : Mst) (cap : Nat) (ao : Option Addr) (ps : List Pk) (n cp : Nat) (k : Int) (w : World) (hM : Mm w m p r c x.cs x.n x.a) (hR : RowR w g x.cs cap) (hgr : ¬ g = r) (hl : x.cs.length ≤ 17592186044415) (hn : n = ps.length)
    (hs : SlOf 3 pkL w ao ps) (hx : 0 < ps.length → ∀ ad, ao = some ad → ¬ ad.block = p ∧ ¬ ad.block = r) (hc : n ≤ 1000) (c0 : 0 ≤ x.n) (c1 : x.n < 4611686018427386000) :
    Calls Tryz.prog 10 #[.pointer (some ⟨m, 0, none⟩), .agg (rmA c (some ⟨g, 0, none⟩) x.cs.length cap x.n x.a), .slice ao n cp, .int .i64 k] w fun e w' =>
      ∃ g' c', e = .returned (.agg (rmA c (some ⟨g', 0, none⟩) x.cs.length c' (pkF k ps x).n (pkF k ps x).a)) ∧ (g' = g ∨ w.heap.size ≤ g') ∧ RowR w' g' (pkF k ps x).cs c' ∧ Mm w' m p r c (pkF k ps x).cs (pkF k ps x).n (pkF k ps x).a ∧ Kept [p, r] w w' := by
  obtain ⟨b, hb⟩ : ∃ b, b = w.heap.size := ⟨_, rfl⟩
  obtain ⟨L, hL⟩ : ∃ L, L = x.cs.length := ⟨_, rfl⟩
  rw [← hL]
  have ST := hidOf (two_new 35 35 w (rmA c (some ⟨g, 0, none⟩) L cap x.n x.a) rmZ hb)
  have hg := hR.lt
  have HM := hidOf hM
  have HMr : Hid (m < w.heap.size ∧ p < w.heap.size ∧ r < w.heap.size) := ⟨lt_of_blk hM.st, lt_of_blk hM.bk.st, lt_of_blk hM.bk.row⟩
  have HR := hidOf hR
  have HS := hidOf hs
  have HN := hidOf hn
  have HLe := hidOf hL
  clear hM hR hs hn hL
  go_enter Tryz.func10, Tryz.ntmps10
  go_upto_region 1 with (fail)
  rw [← hb]
  refine gen_world (fun W => RW 35 W b (rmA c (some ⟨g, 0, none⟩) L cap x.n x.a) ∧ RW 35 W (b + 1) rmZ ∧ Kept [] w W) ST.out ?_
  have hbw : w.heap.size ≤ b := by omega
  clear ST hb
  rintro W ⟨B0, C0, K0⟩
  have HX := hidOf (And.intro B0 (And.intro C0 K0))
  clear B0 C0 K0
  go_wp2
  go_loopw [13] (fun i wr => ∃ (j g' c' : Nat), j ≤ n ∧ i = .int .i64 j ∧ RW 35 wr b (rmA c (some ⟨g', 0, none⟩) L c' (pkF k (ps.take j) x).n (pkF k (ps.take j) x).a) ∧ RW 35 wr (b + 1) rmZ ∧ Hid (g' = g ∨ w.heap.size ≤ g') ∧ RowR wr g' (pkF k (ps.take j) x).cs c' ∧ Mm wr m p r c (pkF k (ps.take j) x).cs (pkF k (ps.take j) x).n (pkF k (ps.take j) x).a ∧ Kept [p, r] w wr) (fun i _ => n - (intOf i).toNat)
  case atStart =>
    obtain ⟨B0, C0, K0⟩ := HX.out
    exact ⟨0, g, cap, Nat.zero_le _, rfl, B0, C0, Or.inl rfl, HR.out.kept K0 (by simp), HM.out.new K0, K0.weaken (by simp)⟩
  case round =>
    obtain ⟨j, g', c', hj, rfl, D0, C0, hg0, R0, M0, KR⟩ := hrel
    clear HX HR HM
    by_cases hlt : j < n
    · have hltz : (j : Int) < (n : Int) := by omega
      have NX := hidOf (pkF_next k ps x (by rw [← HN.out]; exact hlt))
      obtain ⟨Y, hYe⟩ : ∃ Y, pkF k (ps.take j) x = Y := ⟨_, rfl⟩
      have yb := pkF_n k (ps.take j) x
      have hY : Y.cs.length = L := by rw [← hYe, pkF_len]; exact HLe.out.symm
      rw [List.length_take] at yb
      rw [hYe] at NX D0 R0 M0 yb
      clear hYe
      have y0 : 0 ≤ Y.n := by omega
      have y1 : Y.n < 4611686018427387904 := by have := HN.out; omega
      have hYl : Y.cs.length ≤ 17592186044415 := by rw [hY, HLe.out]; exact hl
      have SL := HS.out.kept KR (fun ad e => by have := hx (by have := HN.out; omega) ad e; simp; omega)
      obtain ⟨b1, o1, e1, lt1, s0, s1, s2⟩ := pk_row SL (by rw [← HN.out]; exact hlt)
      have hgr' : ¬ g' = r := by
        rcases hg0.out with h | h
        · rw [h]; exact hgr
        · have := HMr.out; omega
      have hgp' : ¬ g' = p := fun e => by obtain ⟨rest, z1, z2⟩ := R0; rw [e, M0.bk.st] at z1; simp at z1
      have hgb' : ¬ g' = b := fun e => by obtain ⟨rest, z1, z2⟩ := R0; rw [e, D0] at z1; simp at z1
      have bp : ¬ b = p := by have := HMr.out; omega
      have br : ¬ b = r := by have := HMr.out; omega
      have bm : ¬ b = m := by have := HMr.out; omega
      have cp' : ¬ b + 1 = p := by have := HMr.out; omega
      have cr' : ¬ b + 1 = r := by have := HMr.out; omega
      generalize ps.getD j pk0 = q at NX s0 s1 s2
      obtain ⟨sk, ce, v⟩ := q
      have ss0 : wr.cell? ⟨b1, o1 + j * 3, none⟩ = some (.int .i64 sk) := s0
      have ss1 : wr.cell? ⟨b1, o1 + j * 3 + 1, none⟩ = some (.int .i64 ce) := s1
      have ss2 : wr.cell? ⟨b1, o1 + j * 3 + 2, none⟩ = some (.int .u64 v) := s2
      clear s0 s1 s2 SL
      rw [e1]
      have HF := hidOf (And.intro D0 (And.intro C0 (And.intro R0 (And.intro M0 KR))))
      have szr := D0.lt
      clear D0 C0 R0 M0 KR
      by_cases hk : sk = k
      · subst hk
        have NX' : Hid (pkF sk (ps.take (j + 1)) x = ⟨clV Y.cs 2 ce 0 v, Y.n + 1, acV Y.cs 2 ce 0 0 v⟩) := NX.out.trans (if_pos rfl)
        clear NX
        have NX := NX'
        clear NX'
        obtain ⟨nb, hnb⟩ : ∃ nb, nb = wr.heap.size := ⟨_, rfl⟩
        go_upto_region 5 with (fail)
        rw [← hnb]
        refine gen_world (fun V => RW 83 V nb (pkA ⟨sk, ce, v⟩) ∧ Kept [] wr V) ?_ ?_
        · rw [hnb]; exact ⟨RW.new _ _ _, (Kept.refl [] wr).alloc _⟩
        have nle : wr.heap.size ≤ nb := by omega
        clear hnb ss0 ss1 ss2
        rintro V1 ⟨N1, KV1⟩
        have D1 := HF.out.1.kept KV1.drew (by simp)
        have C1 := HF.out.2.1.kept KV1.drew (by simp)
        have R1 := HF.out.2.2.1.kept KV1.drew (by simp)
        have M1 : Mm V1.drew m p r c Y.cs Y.n Y.a := HF.out.2.2.2.1.new KV1.drew
        have KV : Kept [p, r] w V1.drew := HF.out.2.2.2.2.then KV1.drew (by simp)
        have N1' : RW 83 V1.drew nb (pkA ⟨sk, ce, v⟩) := N1
        have np : ¬ nb = p := by have := HMr.out; have := HF.out.2.2.2.2.size; omega
        have nr : ¬ nb = r := by have := HMr.out; have := HF.out.2.2.2.2.size; omega
        clear HF KV1
        refine wp_region_held_drew (S := fun w' => RW 83 w' nb (pkA ⟨sk, ce, v⟩)) (by kernel_rfl) N1 (fun hS => ?_)
        refine wpAnyH_take (i := 0) (oi := { dst := some 21, op := Op.move (Operand.tmp 0), type := 29, pos := "law.go:53", after := #[], guard := none }) (v := Value.pointer (some ⟨m, 0, none⟩)) rfl (by kernel_rfl) (by kernel_rfl) (by kernel_rfl) (fun _ _ _ h => h) (Or.inl ⟨rfl, fun _ _ => by kernel_rfl⟩) hS ?_
        try simp only [Act.put, List.setIfInBounds_toArray, List.set_cons_zero, List.set_cons_succ]
        refine wpAnyH_take (i := 2) (oi := { dst := some 23, op := Op.fieldAddr 83 (Operand.tmp 10) 1, type := 0, pos := "law.go:53", after := #[], guard := none }) (v := Value.pointer (some ⟨nb, 1, none⟩)) rfl (by kernel_rfl) (by kernel_rfl) (by kernel_rfl) (fun _ _ _ h => h) (Or.inl ⟨rfl, fun _ _ => by kernel_rfl⟩) hS ?_
        try simp only [Act.put, List.setIfInBounds_toArray, List.set_cons_zero, List.set_cons_succ]
        refine wpAnyH_take (i := 3) (oi := { dst := some 24, op := Op.load 3 (Operand.tmp 23), type := 3, pos := "law.go:53", after := #[{ on := 2, ground := Ground.data }], guard := none }) (v := Value.int .i64 ce) rfl (by kernel_rfl) (by kernel_rfl) (by kernel_rfl) (fun _ _ _ h => h) (Or.inl ⟨rfl, fun w hSw => by have z := cell_of_blk hSw (i := 1) (v := .int .i64 ce) rfl; go_simp⟩) hS ?_
        try simp only [Act.put, List.setIfInBounds_toArray, List.set_cons_zero, List.set_cons_succ]
        refine wpAnyH_take (i := 4) (oi := { dst := some 25, op := Op.fieldAddr 83 (Operand.tmp 10) 2, type := 0, pos := "law.go:53", after := #[], guard := none }) (v := Value.pointer (some ⟨nb, 2, none⟩)) rfl (by kernel_rfl) (by kernel_rfl) (by kernel_rfl) (fun _ _ _ h => h) (Or.inl ⟨rfl, fun _ _ => by kernel_rfl⟩) hS ?_
        try simp only [Act.put, List.setIfInBounds_toArray, List.set_cons_zero, List.set_cons_succ]
        refine wpAnyH_take (i := 5) (oi := { dst := some 26, op := Op.load 25 (Operand.tmp 25), type := 25, pos := "law.go:53", after := #[{ on := 4, ground := Ground.data }], guard := none }) (v := Value.int .u64 v) rfl (by kernel_rfl) (by kernel_rfl) (by kernel_rfl) (fun _ _ _ h => h) (Or.inl ⟨rfl, fun w hSw => by have z := cell_of_blk hSw (i := 2) (v := .int .u64 v) rfl; go_simp⟩) hS ?_
        try simp only [Act.put, List.setIfInBounds_toArray, List.set_cons_zero, List.set_cons_succ]
        refine wpAnyH_ready (rs := [1]) (by kernel_rfl) (by simp) ?_
        refine AllReadyH.cons (o := { dst := some 22, op := Op.call { callee := Callee.value (Operand.func 20), args := #[Operand.tmp 21], argTypes := #[29] }, type := 68, pos := "law.go:53", after := #[{ on := 0, ground := Ground.data }], guard := none }) rfl (fun K hK => ?_) AllReadyH.nil
        rw [if_pos (by rfl)]
        refine wp_calls 20 #[.pointer (some ⟨m, 0, none⟩)] (by kernel_rfl) (fun v V => v = .pointer (some ⟨p, 0, none⟩) ∧ V = V1.drew) ((bank_any m p r c Y.cs Y.n Y.a V1.drew M1).mono fun e w' hh => ⟨_, hh.1, rfl, hh.2⟩) ?_
        rintro _ _ ⟨rfl, rfl⟩
        try simp only [Act.put, List.setIfInBounds_toArray, List.set_cons_zero, List.set_cons_succ]
        refine hK.out _ _ (N1') (fun hS => ?_)
        clear hK K
        refine wpAnyH_ready (rs := [6]) (by kernel_rfl) (by simp) ?_
        refine AllReadyH.cons (o := { dst := some 27, op := Op.call { callee := Callee.value (Operand.func 28), args := #[Operand.tmp 22, Operand.tmp 24, Operand.const (Value.int IntKind.u64 0), Operand.tmp 26], argTypes := #[68, 3, 25, 25] }, type := 0, pos := "law.go:53", after := #[{ on := 1, ground := Ground.data }, { on := 3, ground := Ground.data }, { on := 5, ground := Ground.data }, { on := 1, ground := Ground.chain }], guard := none }) rfl (fun K hK => ?_) AllReadyH.nil
        rw [if_pos (by rfl)]
        refine wp_calls 28 #[.pointer (some ⟨p, 0, none⟩), .int .i64 ce, .int .u64 0, .int .u64 v] (by kernel_rfl) (fun u V => u = .tuple #[] ∧ Bk V p r (clV Y.cs 2 ce 0 v) (Y.n + 1) (acV Y.cs 2 ce 0 0 v) ∧ Kept [p, r] V1.drew V) ((store_any p r Y.cs Y.n Y.a ce 0 v V1.drew M1.bk y0 y1).mono fun e w' hh => ⟨_, hh.1, rfl, hh.2.1, hh.2.2⟩) ?_
        rintro _ w6 ⟨rfl, B6, K6⟩
        have N6 := N1'.kept K6 (by simp; omega)
        try simp only [Act.put, List.setIfInBounds_toArray, List.set_cons_zero, List.set_cons_succ]
        refine hK.out _ _ (N6) (fun hS => ?_)
        clear hK K
        refine wpAnyH_done (by kernel_rfl) ?_ _
        have nouse := hS
        clear nouse
        have M6 : Mm w6 m p r c (clV Y.cs 2 ce 0 v) (Y.n + 1) (acV Y.cs 2 ce 0 0 v) := Mm.step M1 K6 B6
        have D6 := D1.kept K6 (by simp; omega)
        have C6 := C1.kept K6 (by simp; omega)
        have R6 := R1.kept K6 (by simp; omega)
        have K7 : Kept [p, r] w w6 := KV.trans K6
        have HX6 := hidOf (And.intro M6 (And.intro D6 (And.intro C6 (And.intro R6 (And.intro K7 N6)))))
        have PR := hidOf (pokedRef_any sk ce v c g' Y.cs c' Y.n Y.a w6 R6 hYl y0 y1)
        rw [hY] at PR
        have szb := D6.lt
        have szc := C6.lt
        clear M6 D6 C6 R6 K7 N6 B6 K6 M1 D1 C1 R1 N1 N1' KV hS
        go_wp2_with (first
          | ((with_reducible change wpList _ _ _ (Oper.mk _ (Op.load 35 _) _ _ _ _ :: _) _ _); refine wpList_load_rw 35 isT_rm rfl (.tmp 5) rfl b rfl (rmA c (some ⟨g', 0, none⟩) L c' Y.n Y.a) rfl HX6.out.2.1 ?_)
          | ((with_reducible change wpList _ _ _ (Oper.mk _ (Op.load 83 _) _ _ _ _ :: _) _ _); refine wpList_load_rw 83 isT_pk rfl (.tmp 10) rfl nb rfl (pkA ⟨sk, ce, v⟩) rfl HX6.out.2.2.2.2.2 ?_))
        refine PR.out.mono ?_
        rintro e w8 ⟨g2, c2, rfl, h2, R8, K8⟩
        have D8 := HX6.out.2.1.kept K8 (by simp)
        have HX8 := hidOf (And.intro (HX6.out.1.new K8) (And.intro (HX6.out.2.2.1.kept K8 (by simp)) (And.intro R8 (HX6.out.2.2.2.2.1.then K8 (by simp)))))
        have G2 : Hid (g2 = g ∨ w.heap.size ≤ g2) := by
          rcases h2 with rfl | h2
          · exact hg0.out
          · exact Or.inr (by have := HX6.out.2.2.2.2.1.size; omega)
        have gb : ¬ g2 = b := fun e => by obtain ⟨rest, z1, z2⟩ := R8; rw [e] at z1; rw [D8] at z1; simp at z1
        clear PR HX6 K8 R8 h2
        go_wp2_with (first
          | ((with_reducible change wpList _ _ _ (Oper.mk _ (Op.store 35 _ _) _ _ _ _ :: _) _ _); refine wpList_store_rw 35 isT_rm rfl (.tmp 5) (.tmp 30) rfl b (rmA c (some ⟨g2, 0, none⟩) L c2 (Y.n + 1) (acV Y.cs 2 ce 0 0 v)) rfl rfl rfl (rm_one _ _ _ _ _ _) _ D8 rfl ?_))
        go_roundw
        case rel =>
          obtain ⟨MM, CC, RR, KK⟩ := HX8.out
          have kr : Kept [b] w8 (w8.setRow b (rmA c (some ⟨g2, 0, none⟩) L c2 (Y.n + 1) (acV Y.cs 2 ce 0 0 v))) := (Kept.refl [b] w8).setRow (Or.inl (by simp)) _
          refine ⟨j + 1, g2, c2, by omega, by go_num, ?_, CC.kept kr (by simp), G2, ?_, ?_, KK.then kr (by simp; omega)⟩
          · rw [NX.out]; exact D8.row _
          · rw [NX.out]; exact RR.kept kr (by simp; omega)
          · rw [NX.out]; exact MM.kept kr (by simp; omega) (by simp; omega) (by simp; omega)
        case measure => simp [intOf]; omega
      · have NX' : Hid (pkF k (ps.take (j + 1)) x = Y) := NX.out.trans (if_neg hk)
        have hkb : (sk == k) = false := by simp [hk]
        clear NX
        go_wp2
        go_roundw
        case rel =>
          have kr : Kept [] wr (wr.alloc (.cells (pkA ⟨sk, ce, v⟩) 83)) := (Kept.refl [] wr).alloc _
          obtain ⟨D0, C0, R0, M0, KR⟩ := HF.out
          refine ⟨j + 1, g', c', by omega, by go_num, ?_, C0.kept kr (by simp), hg0, ?_, ?_, KR.then kr (by simp)⟩
          · rw [NX'.out]; exact D0.kept kr (by simp)
          · rw [NX'.out]; exact R0.kept kr (by simp)
          · rw [NX'.out]; exact M0.new kr
        case measure => simp [intOf]; omega
    · have hje : j = n := by omega
      have e2 : ps.take j = ps := List.take_of_length_le (by rw [hje]; exact Nat.le_of_eq HN.out.symm)
      rw [e2] at D0 R0 M0
      have HF := hidOf (And.intro D0 (And.intro C0 (And.intro R0 (And.intro M0 KR))))
      have HMr' := HMr.out
      clear D0 C0 R0 M0 KR e2 HMr
      go_wp2_with (first
        | ((with_reducible change wpList _ _ _ (Oper.mk _ (Op.load 35 _) _ _ _ _ :: _) _ _); refine wpList_load_rw 35 isT_rm rfl (.tmp 5) rfl b rfl (rmA c (some ⟨g', 0, none⟩) L c' (pkF k ps x).n (pkF k ps x).a) rfl HF.out.1 ?_)
        | ((with_reducible change wpList _ _ _ (Oper.mk _ (Op.store 35 _ _) _ _ _ _ :: _) _ _); refine wpList_store_rw 35 isT_rm rfl (.tmp 8) (.tmp 32) rfl (b + 1) (rmA c (some ⟨g', 0, none⟩) L c' (pkF k ps x).n (pkF k ps x).a) rfl rfl rfl (rm_one _ _ _ _ _ _) rmZ HF.out.2.1 rfl ?_))
      obtain ⟨D0, C0, R0, M0, KR⟩ := HF.out
      have kr : Kept [b + 1] wr (wr.setRow (b + 1) (rmA c (some ⟨g', 0, none⟩) L c' (pkF k ps x).n (pkF k ps x).a)) := (Kept.refl [b + 1] wr).setRow (Or.inl (by simp)) _
      have hgb' : ¬ g' = b + 1 := fun e => by obtain ⟨rest, z1, z2⟩ := R0; rw [e, C0] at z1; simp at z1
      refine bodyPost_ret (v := .agg (rmA c (some ⟨g', 0, none⟩) L c' (pkF k ps x).n (pkF k ps x).a)) ?_ rfl ⟨g', c', rfl, hg0.out, R0.kept kr (by simp; omega), M0.kept kr (by simp; omega) (by simp; omega) (by simp; omega), KR.then kr (by simp; omega)⟩
      obtain ⟨fs, hu⟩ := isT_rm.2
      exact results_cell_row Tryz.results10 _ _ (b + 1) 35 _ (0, 0) _ rfl (C0.row _) hu rfl (by rw [isT_rm.1]; rfl)
end K
end Go.Proofs.YtkjjieklccbmoaaGreatDoor
namespace Go.Proofs.YtkjjieklccbmoaaGreatDoor
open Go.RowKit (Grown Hid Below)
open Go.Deep
namespace K
set_option maxRecDepth 100000
theorem nin5 {x a b c d e : Nat} (h1 : ¬ x = a) (h2 : ¬ x = b) (h3 : ¬ x = c) (h4 : ¬ x = d) (h5 : ¬ x = e) : x ∉ [a, b, c, d, e] := by simp [h1, h2, h3, h4, h5]
section
variable {base : Nat → Prop} {w0 w w' : World} {b fb gb m p r : Nat} {c : Cfg} {g : Gs} {s : Bm} {cs : List Int} {cnt : Int} {a : Acc}
/-- A block of another type is none of a build's, its find's, its guard's and its words'. -/
theorem Bw.apart (h : Bw base w0 w b fb gb m p r c g s cs cnt a) {T : TypeId} {d : Nat} {X : Array Value} (rd : RW T w d X) (h0 : T ≠ 72) (h1 : T ≠ 137) (h2 : T ≠ 60) (h3 : T ≠ 104) (h4 : T ≠ 133) (h5 : T ≠ 25) : ¬ d = b ∧ ¬ d = fb ∧ ¬ d = gb ∧ ¬ d = m ∧ ¬ d = p ∧ ¬ d = r :=
  ⟨blk_ne rd h.bb h0, fun e => fs_blk h.fw.st.fs rd h1 e.symm, blk_ne rd h.fw.st.gd h2, blk_ne rd h.fw.st.mm.st h3, blk_ne rd h.fw.st.mm.bk.st h4, blk_ne rd h.fw.st.mm.bk.row h5⟩
theorem FK.rw5 (h : FK base [b, fb, gb, p, r] w w') {T : TypeId} {d : Nat} {X : Array Value} (rd : RW T w d X) (hT : T ≠ 163) (ap : ¬ d = b ∧ ¬ d = fb ∧ ¬ d = gb ∧ ¬ d = m ∧ ¬ d = p ∧ ¬ d = r) : RW T w' d X := h.blk rd hT (nin5 ap.1 ap.2.1 ap.2.2.1 ap.2.2.2.2.1 ap.2.2.2.2.2)
theorem FK.rowR {bs : List Nat} (h : FK base bs w w') {q cap : Nat} {xs : List Int} (row : RowR w q xs cap) (hn : q ∉ bs) : RowR w' q xs cap := by
  obtain ⟨rest, z, e⟩ := row
  exact ⟨rest, h.blk z (by decide) hn, e⟩
theorem SlB.fk2 {base2 : Nat} {bs : List Nat} {ao : Option Addr} {cap : Nat} {xs : List Int} (h : SlB base2 w ao cap xs) (k : FK base bs w w') (hb : ∀ x ∈ bs, x < base2 ∨ ∃ A T, T ≠ 25 ∧ w.heap[x]? = some (.cells A T (0, 0))) : SlB base2 w' ao cap xs := by
  obtain ⟨l, kk, hl⟩ := k
  refine h.far kk (fun ad e hx => ?_)
  obtain ⟨cur, z⟩ := h.t ad e
  rcases hl _ hx with y | y | ⟨_, B, y⟩
  · rcases hb _ y with q | ⟨A, T, hT, q⟩
    · have := h.b ad e; omega
    · exact blk_ne z q (fun e => hT e.symm) rfl
  · have := lt_of_blk z; omega
  · unfold EB RW at y; rw [z] at y; simp at y
theorem RB.fk2 {base2 : Nat} {bs : List Nat} {A : Array Value} (h : RB base2 w s A) (k : FK base bs w w') (hb : ∀ x ∈ bs, x < base2 ∨ ∃ A T, T ≠ 25 ∧ w.heap[x]? = some (.cells A T (0, 0))) : RB base2 w' s A := by
  obtain ⟨A', e0, a1, c1, a2, c2, a3, c3, e, h1, h2, h3⟩ := h
  exact ⟨A', e0, a1, c1, a2, c2, a3, c3, e, h1.fk2 k hb, h2.fk2 k hb, h3.fk2 k hb⟩
theorem fs_ex {f : Fm} (h : FS base w b c f) : ∃ A, w.heap[b]? = some (.cells A 137 (0, 0)) := by
  rcases h.2 with z | ⟨x, s, era, lw, gg, A, z⟩
  · exact ⟨_, z.fb⟩
  · exact ⟨_, z.fb⟩
/-- Other words. -/
theorem Bw.words {cs' : List Int} {cnt' : Int} {a' : Acc} (h : Bw base w0 w b fb gb m p r c g s cs cnt a) (K : Kept [p, r] w w') (M : Mm w' m p r c cs' cnt' a') (wd : Wds cs') (n0 : 0 ≤ cnt') : Bw base w0 w' b fb gb m p r c g s cs' cnt' a' := by
  obtain ⟨⟨n1, n2, n3⟩, _⟩ := h.nm
  exact ⟨h.bb.kept K (by simp; omega), h.fw.mm M K wd n0, h.bi, h.ob⟩
/-- Another block is written. -/
theorem Bw.box (h : Bw base w0 w b fb gb m p r c g s cs cnt a) {T : TypeId} {d : Nat} {X : Array Value} (rd : RW T w d X) (hT : T ≠ 163) (ap : ¬ d = b ∧ ¬ d = fb ∧ ¬ d = gb ∧ ¬ d = m ∧ ¬ d = p ∧ ¬ d = r) (o : w0.heap.size ≤ d) (K : Kept [d] w w') : Bw base w0 w' b fb gb m p r c g s cs cnt a := by
  obtain ⟨a0, a1, a2, a3, a4, a5⟩ := ap
  have KK : Kept [] w0 w' := h.fw.kp.then K (by simp; omega)
  exact ⟨h.bb.kept K (nin1 (fun e => a0 e.symm)), ⟨⟨h.fw.st.R, h.fw.st.fs.kept K (nin1 (fun e => a1 e.symm)) (fun g3 _ he => by
      obtain ⟨A, hA⟩ := he
      exact nin1 (blk_ne (T1 := 163) hA rd (fun e => hT e.symm))), h.fw.st.gd.kept K (nin1 (fun e => a2 e.symm)), h.fw.st.mm.kept K (nin1 (fun e => a3 e.symm)) (nin1 (fun e => a4 e.symm)) (nin1 (fun e => a5 e.symm)), h.fw.t0.kept KK, h.fw.st.fi, h.fw.st.wd, h.fw.st.u0, h.fw.st.u1, h.fw.st.g0, fun z hz => h.fw.st.bs z (Nat.le_trans K.size hz)⟩, KK, h.fw.ob, h.fw.og, h.fw.op, h.fw.ow, h.fw.os, h.fw.n0, h.fw.t0⟩, h.bi, h.ob⟩
end
def Bo0 (w : World) : Nat → Prop := fun z => w.heap.size ≤ z
/-- The program's build (gp, sp, xp) and the document's (g, s, x, which lie where). -/
structure LBd (W w : World) (q8 d1 d2 b fb gb m p r base2 n : Nat) (c : Cfg) (gp : Gs) (sp : Bm) (xp : Mst) (g : Gs) (s : Bm) (x : Mst) (gg c' : Nat) (A : Array Value) : Prop where
  fw : Bw (Bo0 W) W w b fb gb m p r c gp sp xp.cs xp.n xp.a
  rm : RW 35 w q8 (rmA c (some ⟨gg, 0, none⟩) n c' x.n x.a)
  row : RowR w gg x.cs c'
  rf1 : RW 46 w d1 A
  rf : RB base2 w s A
  rg : RW 49 w d2 (rgA g)
  len : x.cs.length = n
  gr : ¬ gg = r
  bb : b < base2 ∧ gb < base2 ∧ p < base2 ∧ r < base2
  oq : W.heap.size ≤ q8 ∧ W.heap.size ≤ d1 ∧ W.heap.size ≤ d2
  bw : base2 ≤ w.heap.size
section
variable {W w w' : World} {q8 d1 d2 b fb gb m p r base2 n : Nat} {c : Cfg} {gp g : Gs} {sp s : Bm} {xp x : Mst} {gg c' : Nat} {A : Array Value}
theorem LBd.apM (h : LBd W w q8 d1 d2 b fb gb m p r base2 n c gp sp xp g s x gg c' A) : ¬ q8 = b ∧ ¬ q8 = fb ∧ ¬ q8 = gb ∧ ¬ q8 = m ∧ ¬ q8 = p ∧ ¬ q8 = r := h.fw.apart h.rm (by decide) (by decide) (by decide) (by decide) (by decide) (by decide)
theorem LBd.apF (h : LBd W w q8 d1 d2 b fb gb m p r base2 n c gp sp xp g s x gg c' A) : ¬ d1 = b ∧ ¬ d1 = fb ∧ ¬ d1 = gb ∧ ¬ d1 = m ∧ ¬ d1 = p ∧ ¬ d1 = r := h.fw.apart h.rf1 (by decide) (by decide) (by decide) (by decide) (by decide) (by decide)
theorem LBd.apG (h : LBd W w q8 d1 d2 b fb gb m p r base2 n c gp sp xp g s x gg c' A) : ¬ d2 = b ∧ ¬ d2 = fb ∧ ¬ d2 = gb ∧ ¬ d2 = m ∧ ¬ d2 = p ∧ ¬ d2 = r := h.fw.apart h.rg (by decide) (by decide) (by decide) (by decide) (by decide) (by decide)
theorem LBd.apR (h : LBd W w q8 d1 d2 b fb gb m p r base2 n c gp sp xp g s x gg c' A) : gg ∉ [b, fb, gb, p, r] := by
  refine nin5 (h.row.ne h.fw.bb (by decide)) ?_ (h.row.ne h.fw.fw.st.gd (by decide)) (h.row.ne h.fw.fw.st.mm.bk.st (by decide)) h.gr
  obtain ⟨F, hF⟩ := fs_ex h.fw.fw.st.fs
  exact h.row.ne hF (by decide)
theorem LBd.new (h : LBd W w q8 d1 d2 b fb gb m p r base2 n c gp sp xp g s x gg c' A) (k : Kept [] w w') : LBd W w' q8 d1 d2 b fb gb m p r base2 n c gp sp xp g s x gg c' A :=
  ⟨h.fw.new k, h.rm.kept k (by simp), h.row.kept k (by simp), h.rf1.kept k (by simp), h.rf.new k, h.rg.kept k (by simp), h.len, h.gr, h.bb, h.oq, Nat.le_trans h.bw k.size⟩
/-- The program has done its step. -/
theorem LBd.fk {gp2 : Gs} {sp2 : Bm} {xp2 : Mst} {fb2 : Nat} (h : LBd W w q8 d1 d2 b fb gb m p r base2 n c gp sp xp g s x gg c' A) (F : Bw (Bo0 W) W w' b fb2 gb m p r c gp2 sp2 xp2.cs xp2.n xp2.a) (k : FK (Bo0 W) [b, fb, gb, p, r] w w') : LBd W w' q8 d1 d2 b fb2 gb m p r base2 n c gp2 sp2 xp2 g s x gg c' A := by
  have bb := h.bb
  obtain ⟨F0, hF⟩ := fs_ex h.fw.fw.st.fs
  exact ⟨F, k.rw5 h.rm (by decide) h.apM, k.rowR h.row h.apR, k.rw5 h.rf1 (by decide) h.apF, h.rf.fk2 k (by
    intro z hz
    simp at hz
    rcases hz with e | e | e | e | e
    · exact Or.inl (by omega)
    · subst e; exact Or.inr ⟨_, _, by decide, hF⟩
    · exact Or.inl (by omega)
    · exact Or.inl (by omega)
    · exact Or.inl (by omega)), k.rw5 h.rg (by decide) h.apG, h.len, h.gr, h.bb, h.oq, Nat.le_trans h.bw k.size⟩
/-- The document has done its step too. -/
theorem LBd.sync {g2 : Gs} {s2 : Bm} {x2 : Mst} {X B : Array Value} (h : LBd W w q8 d1 d2 b fb gb m p r base2 n c g2 s2 x2 g s x gg c' A) (k : Kept [] w w') (RX : RB base2 w' s2 X) (WB : Wv w gg c n x2.cs x2.n x2.a B w') (hl : x2.cs.length = n) :
    ∃ gg2 c2, B = rmA c (some ⟨gg2, 0, none⟩) n c2 x2.n x2.a ∧ LBd W (((w'.setRow d1 X).setRow q8 B).setRow d2 (rgA g2)) q8 d1 d2 b fb gb m p r base2 n c g2 s2 x2 g2 s2 x2 gg2 c2 X := by
  obtain ⟨gg2, c2, eB, hg, R2⟩ := WB
  refine ⟨gg2, c2, eB, ?_⟩
  have H := h.new k
  have n1 : ¬ q8 = d1 := blk_ne H.rm H.rf1 (by decide)
  have n2 : ¬ d2 = d1 := blk_ne H.rg H.rf1 (by decide)
  have n3 : ¬ q8 = d2 := blk_ne H.rm H.rg (by decide)
  have rm1 := H.rm.rowOther X n1
  have rg1 := H.rg.rowOther X n2
  have rg2 := rg1.rowOther B (c := q8) (fun e => n3 e.symm)
  have k1 := k_row w' d1 X
  have k2 := k_row (w'.setRow d1 X) q8 B
  have k3 := k_row ((w'.setRow d1 X).setRow q8 B) d2 (rgA g2)
  have F1 := H.fw.box H.rf1 (by decide) H.apF h.oq.2.1 k1
  have F2 := F1.box rm1 (by decide) H.apM h.oq.1 k2
  have F3 := F2.box rg2 (by decide) H.apG h.oq.2.2 k3
  have R3 := ((R2.kept k1 (nin1 (R2.ne H.rf1 (by decide)))))
  have R4 := R3.kept k2 (nin1 (R3.ne rm1 (by decide)))
  have R5 := R4.kept k3 (nin1 (R4.ne rg2 (by decide)))
  have gr2 : ¬ gg2 = r := by
    rcases hg with e | e
    · rw [e]; exact h.gr
    · have := lt_of_blk h.fw.fw.st.mm.bk.row; omega
  exact ⟨F3, by rw [← eB]; exact (rm1.row B).rowOther _ n3, R5, ((H.rf1.row X).rowOther B (fun e => n1 e.symm)).rowOther _ (fun e => n2 e.symm), ((RX.far1 H.rf1 (by decide) k1).far1 rm1 (by decide) k2).far1 rg2 (by decide) k3, rg2.row _, hl, gr2, h.bb, h.oq, Nat.le_trans H.bw (by rw [setRow_size, setRow_size, setRow_size]; exact Nat.le_refl _)⟩
/-- Others have written. -/
theorem LBd.poke {x2 : Mst} {gg2 c2 : Nat} (h : LBd W w q8 d1 d2 b fb gb m p r base2 n c g s x g s x gg c' A) (k : Kept [p, r] w w') (M : Mm w' m p r c x2.cs x2.n x2.a) (hg : gg2 = gg ∨ w.heap.size ≤ gg2) (R2 : RowR w' gg2 x2.cs c2) (hl : x2.cs.length = n) (wd : Wds x2.cs) (n0 : 0 ≤ x2.n) :
    LBd W (w'.setRow q8 (rmA c (some ⟨gg2, 0, none⟩) n c2 x2.n x2.a)) q8 d1 d2 b fb gb m p r base2 n c g s x2 g s x2 gg2 c2 A := by
  have aM := h.apM
  have aF := h.apF
  have aG := h.apG
  have rm1 := h.rm.kept k (by simp; omega)
  have rf1 := h.rf1.kept k (by simp; omega)
  have rg1 := h.rg.kept k (by simp; omega)
  have bb := h.bb
  have RF1 : RB base2 w' s A := h.rf.kept k (by intro z hz; simp at hz; omega)
  have n1 : ¬ d1 = q8 := blk_ne rf1 rm1 (by decide)
  have n2 : ¬ d2 = q8 := blk_ne rg1 rm1 (by decide)
  have k1 := k_row w' q8 (rmA c (some ⟨gg2, 0, none⟩) n c2 x2.n x2.a)
  have F1 := (h.fw.words k M wd n0).box rm1 (by decide) aM h.oq.1 k1
  have gr2 : ¬ gg2 = r := by
    rcases hg with e | e
    · rw [e]; exact h.gr
    · have := lt_of_blk h.fw.fw.st.mm.bk.row; omega
  exact ⟨F1, rm1.row _, R2.kept k1 (nin1 (R2.ne rm1 (by decide))), rf1.rowOther _ n1, RF1.far1 rm1 (by decide) k1, rg1.rowOther _ n2, hl, gr2, h.bb, h.oq, Nat.le_trans h.bw (by rw [setRow_size]; exact k.size)⟩
end
theorem pkS_wd {k : Int} {p : Pk} {x : Mst} (h : Wds x.cs) (hp : p.wf) : Wds (pkS k p x).cs := by
  unfold pkS; split
  · exact wds_clV h 2 _ _ (by decide) hp
  · exact h
theorem pkF_wd {k : Int} : ∀ {ps : List Pk} {x : Mst}, Wds x.cs → (∀ p ∈ ps, p.wf) → Wds (pkF k ps x).cs
  | [], _, h, _ => h
  | p :: ps, x, h, hp => pkF_wd (ps := ps) (x := pkS k p x) (pkS_wd h (hp p (by simp))) (fun y hy => hp y (by simp [hy]))
end K
end Go.Proofs.YtkjjieklccbmoaaGreatDoor
