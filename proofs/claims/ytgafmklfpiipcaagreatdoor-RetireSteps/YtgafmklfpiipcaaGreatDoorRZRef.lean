/-
  The document's retire, as a value: a find lies in its midst; what New makes.
  The blocks of the document's step of a retire.
  The document's step of a retire: done, leave, birth, now.
  The document's step of a retire: find.
  The document's step of a retire: any.
  The document's entry of a retire.
  Words that somebody else writes: the program's, and the document's.
  Words that somebody else writes ahead of a step: the program's, and the document's.
  A retire and the document's, side by side: what holds ahead of each step.
-/
import Derived.Test.YtgafmklfpiipcaaGreatDoorRZDoc
import Derived.Test.YtgafmklfpiipcaaGreatDoorRZRet
import Derived.Deep.MidRow
import Derived.Test.YtgafmklfpiipcaaGreatDoorMRef4
import Derived.Test.YtgafmklfpiipcaaGreatDoorMRef
import Derived.Test.YtgafmklfpiipcaaGreatDoorHWords2
import Derived.Test.YtgafmklfpiipcaaGreatDoorKBase
import Derived.Test.YtgafmklfpiipcaaGreatDoorRZLay
import Derived.Deep.Cut
namespace Go.Proofs.YtgafmklfpiipcaaGreatDoor
open Go.RowKit (Grown Hid Below)
open Go.Deep
namespace K
set_option maxRecDepth 100000
/-- The document's retire. -/
structure Rd where
  h : Int
  nx : Nat
  f : Fm
  la : Bool
  nd : Int
  bi : Int
  er : Int
  d : Bool
/-- The program's, that goes with it. -/
def Rd.m (x : Rd) : Rtm := ⟨plainV x.h, x.nx, x.f, x.la, x.bi, x.er, x.d⟩
def rdS (h k : Int) : Rd := ⟨h, 0, fmS k, false, 0, 0, 0, false⟩
theorem rdS_m (h k : Int) : (rdS h k).m = rtS h k := rfl
/-- A retire's cells, round its find's. -/
def rtJ (s : Rd) (A : Array Value) : Array Value := #[.int .u64 s.h, .int .i64 s.nx, A.getD 0 undef, A.getD 1 undef, A.getD 2 undef, A.getD 3 undef, A.getD 4 undef, A.getD 5 undef, A.getD 6 undef, A.getD 7 undef, A.getD 8 undef, A.getD 9 undef, A.getD 10 undef, A.getD 11 undef, .bool s.la, .int .u64 s.nd, .int .u64 s.bi, .int .u64 s.er, .bool s.d]
def rtZ : Array Value := rtJ ⟨0, 0, fm0, false, 0, 0, 0, false⟩ rfZ
theorem isT_rt : IsT 48 19 := ⟨by kernel_rfl, _, Tryz.underlying48⟩
/-- A retire, and where its find's rows lie. -/
def RT (base : Nat) (w : World) (s : Rd) (X : Array Value) : Prop := ∃ A, X = rtJ s A ∧ RF base w s.f A
theorem RT.kept {base : Nat} {l : List Nat} {w w' : World} {s : Rd} {X : Array Value} (h : RT base w s X) (k : Kept l w w') (hl : ∀ x ∈ l, x < base) : RT base w' s X := by
  obtain ⟨A, e, f⟩ := h; exact ⟨A, e, f.kept k hl⟩
theorem RT.new {base : Nat} {w w' : World} {s : Rd} {X : Array Value} (h : RT base w s X) (k : Kept [] w w') : RT base w' s X := h.kept k (by simp)
theorem RT.far1 {base : Nat} {w w' : World} {s : Rd} {X : Array Value} (h : RT base w s X) {T : TypeId} {b : Nat} {A : Array Value} (r : RW T w b A) (hT : 25 ≠ T) (k : Kept [b] w w') : RT base w' s X := by
  obtain ⟨A, e, f⟩ := h; exact ⟨A, e, f.far1 r hT k⟩
theorem RT.size {base : Nat} {w : World} {s : Rd} {X : Array Value} (h : RT base w s X) : X.size = 19 := by obtain ⟨A, e, f⟩ := h; rw [e]; rfl
theorem rf_ex {base : Nat} {w : World} {f : Fm} {A : Array Value} (h : RF base w f A) : ∃ a1 n1 c1 a2 n2 c2 a3 n3 c3, A = rfA f a1 n1 c1 a2 n2 c2 a3 n3 c3 := by
  obtain ⟨a1, c1, a2, c2, a3, c3, e, _⟩ := h; exact ⟨_, _, _, _, _, _, _, _, _, e⟩
theorem RT.one {base : Nat} {w : World} {s : Rd} {X : Array Value} (h : RT base w s X) : X.all (·.oneCell') = true := by
  obtain ⟨A, e, f⟩ := h
  obtain ⟨a1, n1, c1, a2, n2, c2, a3, n3, c3, eA⟩ := rf_ex f
  rw [e, eA]; simp [rtJ, rfA, Value.oneCell']
theorem RT.cells {base : Nat} {w : World} {s : Rd} {X : Array Value} (h : RT base w s X) : X[0]? = some (.int .u64 s.h) ∧ X[1]? = some (.int .i64 s.nx) ∧ X[14]? = some (.bool s.la) ∧ X[15]? = some (.int .u64 s.nd) ∧ X[16]? = some (.int .u64 s.bi) ∧ X[17]? = some (.int .u64 s.er) ∧ X[18]? = some (.bool s.d) := by
  obtain ⟨A, e, f⟩ := h; rw [e]; exact ⟨rfl, rfl, rfl, rfl, rfl, rfl, rfl⟩
theorem RT.setnx {base : Nat} {w : World} {s : Rd} {X : Array Value} (h : RT base w s X) (v : Nat) : RT base w { s with nx := v } (X.setIfInBounds 1 (.int .i64 v)) := by
  obtain ⟨A, e, f⟩ := h; exact ⟨A, by rw [e]; rfl, f⟩
theorem RT.setla {base : Nat} {w : World} {s : Rd} {X : Array Value} (h : RT base w s X) (v : Bool) : RT base w { s with la := v } (X.setIfInBounds 14 (.bool v)) := by
  obtain ⟨A, e, f⟩ := h; exact ⟨A, by rw [e]; rfl, f⟩
theorem RT.setnd {base : Nat} {w : World} {s : Rd} {X : Array Value} (h : RT base w s X) (v : Int) : RT base w { s with nd := v } (X.setIfInBounds 15 (.int .u64 v)) := by
  obtain ⟨A, e, f⟩ := h; exact ⟨A, by rw [e]; rfl, f⟩
theorem RT.setbi {base : Nat} {w : World} {s : Rd} {X : Array Value} (h : RT base w s X) (v : Int) : RT base w { s with bi := v } (X.setIfInBounds 16 (.int .u64 v)) := by
  obtain ⟨A, e, f⟩ := h; exact ⟨A, by rw [e]; rfl, f⟩
theorem RT.seter {base : Nat} {w : World} {s : Rd} {X : Array Value} (h : RT base w s X) (v : Int) : RT base w { s with er := v } (X.setIfInBounds 17 (.int .u64 v)) := by
  obtain ⟨A, e, f⟩ := h; exact ⟨A, by rw [e]; rfl, f⟩
theorem RT.setd {base : Nat} {w : World} {s : Rd} {X : Array Value} (h : RT base w s X) (v : Bool) : RT base w { s with d := v } (X.setIfInBounds 18 (.bool v)) := by
  obtain ⟨A, e, f⟩ := h; exact ⟨A, by rw [e]; rfl, f⟩
/-- Cells written one behind the other. -/
def setFrom (X : Array Value) : Nat → List Value → Array Value
  | _, [] => X
  | o, v :: r => setFrom (X.setIfInBounds o v) (o + 1) r
theorem RW.cellsFrom {T : TypeId} {b : Nat} : ∀ (vs : List Value) (o : Nat) {w : World} {X : Array Value}, RW T w b X → RW T (w.setCells b o vs) b (setFrom X o vs)
  | [], _, _, _, h => h
  | v :: r, o, _, _, h => RW.cellsFrom r (o + 1) (h.set o v)
theorem kept_cells (b : Nat) : ∀ (vs : List Value) (o : Nat) {w0 w : World}, Kept [b] w0 w → Kept [b] w0 (w.setCells b o vs)
  | [], _, _, _, h => h
  | v :: r, o, _, _, h => kept_cells b r (o + 1) (h.setCell (p := ⟨b, o, none⟩) (Or.inl (by simp)) v)
theorem RT.setf {base : Nat} {w : World} {s : Rd} {X : Array Value} {f' : Fm} {A' : Array Value} (h : RT base w s X) (h' : RF base w f' A') : RT base w { s with f := f' } (setFrom X 2 A'.toList) := by
  obtain ⟨A, e, f⟩ := h
  obtain ⟨a1, n1, c1, a2, n2, c2, a3, n3, c3, eA⟩ := rf_ex f
  obtain ⟨x1, m1, d1, x2, m2, d2, x3, m3, d3, eB⟩ := rf_ex h'
  exact ⟨A', by rw [e, eA, eB]; simp [setFrom, rtJ, rfA], h'⟩
/-- The find in the midst of a block. -/
theorem RT.mid {base : Nat} {w : World} {s : Rd} {X : Array Value} (h : RT base w s X) : ∃ A, RF base w s.f A ∧ A.toList.length = 12 ∧ ∀ (W : World) (b : Nat) (T : TypeId), RW T W b X → W.rangeAt b 2 A.toList ∧ W.there b 2 12 := by
  obtain ⟨A, e, f⟩ := h
  have sz := f.size
  refine ⟨A, f, by simpa using sz, fun W b T r => ⟨fun j v hv => ?_, fun j hj => ?_⟩⟩
  · obtain ⟨a1, n1, c1, a2, n2, c2, a3, n3, c3, eA⟩ := rf_ex f
    have hj : j < 12 := by have := (List.getElem?_eq_some_iff.1 hv).1; simp at this; omega
    refine cell_of_blk r ?_
    rw [e]
    rw [eA] at hv ⊢
    rcases (by omega : j = 0 ∨ j = 1 ∨ j = 2 ∨ j = 3 ∨ j = 4 ∨ j = 5 ∨ j = 6 ∨ j = 7 ∨ j = 8 ∨ j = 9 ∨ j = 10 ∨ j = 11) with q | q | q | q | q | q | q | q | q | q | q | q <;> subst q <;> exact hv
  · have hX : 2 + j < X.size := by rw [e]; show 2 + j < 19; omega
    have z := cell_of_blk r (i := 2 + j) (v := X[2 + j]) (by simp [hX])
    exact ⟨by rw [z]; rfl, free_of_blk r _⟩
theorem RT.start (base : Nat) (w : World) (h k : Int) : RT base w (rdS h k) (rtJ (rdS h k) (rfA (fmS k) none 0 0 none 0 0 none 0 0)) := ⟨_, rfl, RF.anew base w ⟨k, 0, 0, 0, 0, 0, 0, [], [], [], 0, false⟩ 0⟩
set_option maxHeartbeats 2000000 in
theorem rtnewd_any (h k : Int) (w : World) :
    Calls Tryz.prog 8 #[.int .u64 h, .int .u64 k] w fun e w' => e = .returned (.agg (rtJ (rdS h k) (rfA (fmS k) none 0 0 none 0 0 none 0 0))) ∧ Kept [] w w' := by
  have FN : Hid (∀ W, Calls Tryz.prog 30 #[.int .u64 k] W fun e w' => e = .returned (.agg #[.int .u64 k, .int .i64 0, .int .i64 0, .int .u64 9223372036854775808, .int .u64 0, .int .u64 0, .int .u64 0, .slice none 0 0, .slice none 0 0, .slice none 0 0, .int .i64 0, .bool false]) ∧ Kept [] W w') := hidOf (fun W => rfnew_any k W)
  have E : rtJ (rdS h k) (rfA (fmS k) none 0 0 none 0 0 none 0 0) = #[.int .u64 h, .int .i64 0, .int .u64 k, .int .i64 0, .int .i64 0, .int .u64 9223372036854775808, .int .u64 0, .int .u64 0, .int .u64 0, .slice none 0 0, .slice none 0 0, .slice none 0 0, .int .i64 0, .bool false, .bool false, .int .u64 0, .int .u64 0, .int .u64 0, .bool false] := rfl
  rw [E]
  clear E
  obtain ⟨b, hb⟩ : ∃ b, b = w.heap.size := ⟨_, rfl⟩
  have ST : Hid (RW 48 (w.alloc (.cells rtZ 48)) b rtZ ∧ Kept [] w (w.alloc (.cells rtZ 48))) := hidOf ⟨by rw [hb]; exact RW.new _ _ _, (Kept.refl [] w).alloc _⟩
  go_enter Tryz.func8, Tryz.ntmps8
  go_upto_region 1 with (fail)
  rw [← hb]
  refine gen_world (fun W => RW 48 W b rtZ ∧ Kept [] w W) ST.out ?_
  have hbw : w.heap.size ≤ b := by omega
  clear ST hb
  rintro W ⟨C0, hk⟩
  go_wp2_with fail
  refine (FN.out _).mono ?_
  rintro e w1 ⟨rfl, K1⟩
  have C1 := C0.kept K1 (by simp)
  go_wp2_with (first | ((with_reducible change wpList _ _ _ (Oper.mk _ (Op.store 48 _ _) _ _ _ _ :: _) _ _); refine wpList_store_rw 48 isT_rt rfl (.tmp 4) (.tmp 8) rfl b #[.int .u64 h, .int .i64 0, .int .u64 k, .int .i64 0, .int .i64 0, .int .u64 9223372036854775808, .int .u64 0, .int .u64 0, .int .u64 0, .slice none 0 0, .slice none 0 0, .slice none 0 0, .int .i64 0, .bool false, .bool false, .int .u64 0, .int .u64 0, .int .u64 0, .bool false] rfl rfl rfl (by simp [Value.oneCell']) rtZ C1 rfl ?_))
  refine bodyPost_ret (v := .agg #[.int .u64 h, .int .i64 0, .int .u64 k, .int .i64 0, .int .i64 0, .int .u64 9223372036854775808, .int .u64 0, .int .u64 0, .int .u64 0, .slice none 0 0, .slice none 0 0, .slice none 0 0, .int .i64 0, .bool false, .bool false, .int .u64 0, .int .u64 0, .int .u64 0, .bool false]) ?_ rfl ⟨rfl, (hk.trans K1).setRow (b := b) (Or.inr hbw) _⟩
  obtain ⟨fs, hu⟩ := isT_rt.2
  exact results_cell_row Tryz.results8 _ _ b 48 _ (0, 0) _ rfl (C1.row _) hu rfl (by rw [isT_rt.1]; rfl)
end K
end Go.Proofs.YtgafmklfpiipcaaGreatDoor
namespace Go.Proofs.YtgafmklfpiipcaaGreatDoor
open Go.RowKit (Grown Hid Below)
open Go.Deep
namespace K
set_option maxRecDepth 100000
/-- The blocks with which a function of three structs begins that gives back three. -/
structure Pr6 (w W : World) (b : Nat) (A M G : Array Value) : Prop where
  f : RW 48 W b A
  m : RW 35 W (b + 1) M
  g : RW 51 W (b + 1 + 1) G
  x : RW 48 W (b + 1 + 1 + 1) rtZ
  y : RW 35 W (b + 1 + 1 + 1 + 1) rmZ
  z : RW 51 W (b + 1 + 1 + 1 + 1 + 1) rgZ
  k : Kept [] w W
  old : w.heap.size ≤ b
theorem Pr6.start (w : World) (A M G : Array Value) {b : Nat} (hb : b = w.heap.size) : Pr6 w ((((((w.alloc (.cells A 48)).alloc (.cells M 35)).alloc (.cells G 51)).alloc (.cells rtZ 48)).alloc (.cells rmZ 35)).alloc (.cells rgZ 51)) b A M G := by
  subst hb
  refine ⟨(((((RW.new _ _ _).up _).up _).up _).up _).up _, ?_, ?_, ?_, ?_, ?_, ((((((Kept.refl [] w).alloc _).alloc _).alloc _).alloc _).alloc _).alloc _, Nat.le_refl _⟩
  · have z := ((((RW.new 35 (w.alloc (.cells A 48)) M).up (.cells G 51)).up (.cells rtZ 48)).up (.cells rmZ 35)).up (.cells rgZ 51); rw [nblk_alloc] at z; exact z
  · have z := (((RW.new 51 ((w.alloc (.cells A 48)).alloc (.cells M 35)) G).up (.cells rtZ 48)).up (.cells rmZ 35)).up (.cells rgZ 51); rw [nblk_alloc, nblk_alloc] at z; exact z
  · have z := ((RW.new 48 (((w.alloc (.cells A 48)).alloc (.cells M 35)).alloc (.cells G 51)) rtZ).up (.cells rmZ 35)).up (.cells rgZ 51); rw [nblk_alloc, nblk_alloc, nblk_alloc] at z; exact z
  · have z := (RW.new 35 ((((w.alloc (.cells A 48)).alloc (.cells M 35)).alloc (.cells G 51)).alloc (.cells rtZ 48)) rmZ).up (.cells rgZ 51); rw [nblk_alloc, nblk_alloc, nblk_alloc, nblk_alloc] at z; exact z
  · have z := RW.new 51 (((((w.alloc (.cells A 48)).alloc (.cells M 35)).alloc (.cells G 51)).alloc (.cells rtZ 48)).alloc (.cells rmZ 35)) rgZ; rw [nblk_alloc, nblk_alloc, nblk_alloc, nblk_alloc, nblk_alloc] at z; exact z
theorem Pr6.new {w W V : World} {b : Nat} {A M G : Array Value} (h : Pr6 w W b A M G) (k : Kept [] W V) : Pr6 w V b A M G :=
  ⟨h.f.kept k (by simp), h.m.kept k (by simp), h.g.kept k (by simp), h.x.kept k (by simp), h.y.kept k (by simp), h.z.kept k (by simp), h.k.trans k, h.old⟩
theorem Pr6.setF {w W : World} {b : Nat} {A M G : Array Value} (h : Pr6 w W b A M G) (X : Array Value) : Pr6 w (W.setRow b X) b X M G :=
  ⟨h.f.row X, h.m.rowOther X (by omega), h.g.rowOther X (by omega), h.x.rowOther X (by omega), h.y.rowOther X (by omega), h.z.rowOther X (by omega), h.k.setRow (Or.inr h.old) X, h.old⟩
theorem Pr6.setM {w W : World} {b : Nat} {A M G : Array Value} (h : Pr6 w W b A M G) (X : Array Value) : Pr6 w (W.setRow (b + 1) X) b A X G :=
  ⟨h.f.rowOther X (by omega), h.m.row X, h.g.rowOther X (by omega), h.x.rowOther X (by omega), h.y.rowOther X (by omega), h.z.rowOther X (by omega), h.k.setRow (Or.inr (by have := h.old; omega)) X, h.old⟩
theorem Pr6.setG {w W : World} {b : Nat} {A M G : Array Value} (h : Pr6 w W b A M G) (X : Array Value) : Pr6 w (W.setRow (b + 1 + 1) X) b A M X :=
  ⟨h.f.rowOther X (by omega), h.m.rowOther X (by omega), h.g.row X, h.x.rowOther X (by omega), h.y.rowOther X (by omega), h.z.rowOther X (by omega), h.k.setRow (Or.inr (by have := h.old; omega)) X, h.old⟩
theorem Pr6.cell {w W : World} {b : Nat} {A M G : Array Value} (h : Pr6 w W b A M G) (i : Nat) (v : Value) : Pr6 w (W.setCell ⟨b, i, none⟩ v) b (A.setIfInBounds i v) M G := by
  have k : Kept [b] W (W.setCell ⟨b, i, none⟩ v) := (Kept.refl [b] W).setCell (Or.inl (by simp)) v
  exact ⟨h.f.set i v, h.m.kept k (by simp), h.g.kept k (by simp; omega), h.x.kept k (by simp; omega), h.y.kept k (by simp; omega), h.z.kept k (by simp; omega), h.k.then k (by simp; exact h.old), h.old⟩
/-- The machine, the words and where they lie, and the blocks. -/
structure Sr6 (w W : World) (b base g : Nat) (c : Cfg) (n : Nat) (f : Rd) (cs : List Int) (cnt : Int) (a : Acc) (A M G : Array Value) : Prop where
  r : Pr6 w W b A M G
  f : RT base W f A
  v : Wv w g c n cs cnt a M W
theorem Sr6.setF {w W : World} {b base g : Nat} {c : Cfg} {n : Nat} {f f' : Rd} {cs : List Int} {cnt : Int} {a : Acc} {A M G X : Array Value} (h : Sr6 w W b base g c n f cs cnt a A M G) (hX : RT base W f' X) : Sr6 w (W.setRow b X) b base g c n f' cs cnt a X M G :=
  ⟨h.r.setF X, hX.far1 h.r.f (by decide) (k_row W b X), h.v.one h.r.f (by decide) (k_row W b X)⟩
theorem Sr6.new {w W V : World} {b base g : Nat} {c : Cfg} {n : Nat} {f : Rd} {cs : List Int} {cnt : Int} {a : Acc} {A M G : Array Value} (h : Sr6 w W b base g c n f cs cnt a A M G) (k : Kept [] W V) : Sr6 w V b base g c n f cs cnt a A M G :=
  ⟨h.r.new k, h.f.new k, h.v.new k⟩
/-- The words are written into their block. -/
theorem Sr6.ofM {w W : World} {b base g : Nat} {c : Cfg} {n : Nat} {f : Rd} {cs : List Int} {cnt : Int} {a : Acc} {A M G B : Array Value} (r : Pr6 w W b A M G) (hf : RT base W f A) (hv : Wv w g c n cs cnt a B W) : Sr6 w (W.setRow (b + 1) B) b base g c n f cs cnt a A B G :=
  ⟨r.setM B, hf.far1 r.m (by decide) (k_row W (b + 1) B), hv.one r.m (by decide) (k_row W (b + 1) B)⟩
theorem Sr6.setG {w W : World} {b base g : Nat} {c : Cfg} {n : Nat} {f : Rd} {cs : List Int} {cnt : Int} {a : Acc} {A M G : Array Value} (h : Sr6 w W b base g c n f cs cnt a A M G) (X : Array Value) : Sr6 w (W.setRow (b + 1 + 1) X) b base g c n f cs cnt a A M X :=
  ⟨h.r.setG X, h.f.far1 h.r.g (by decide) (k_row W (b + 1 + 1) X), h.v.one h.r.g (by decide) (k_row W (b + 1 + 1) X)⟩
/-- One cell of the machine's block is written. -/
theorem Sr6.cell {w W : World} {b base g : Nat} {c : Cfg} {n : Nat} {f f' : Rd} {cs : List Int} {cnt : Int} {a : Acc} {A M G : Array Value} {i : Nat} {v : Value} (h : Sr6 w W b base g c n f cs cnt a A M G) (hf : RT base W f' (A.setIfInBounds i v)) : Sr6 w (W.setCell ⟨b, i, none⟩ v) b base g c n f' cs cnt a (A.setIfInBounds i v) M G :=
  ⟨h.r.cell i v, hf.far1 h.r.f (by decide) (k_cell W b i v), h.v.one h.r.f (by decide) (k_cell W b i v)⟩
/-- What is given back. -/
structure Tr6 (w W : World) (b base g : Nat) (c : Cfg) (n : Nat) (f : Rd) (cs : List Int) (cnt : Int) (a : Acc) (A M G : Array Value) : Prop where
  x : RW 48 W (b + 1 + 1 + 1) A
  y : RW 35 W (b + 1 + 1 + 1 + 1) M
  z : RW 51 W (b + 1 + 1 + 1 + 1 + 1) G
  f : RT base W f A
  v : Wv w g c n cs cnt a M W
  k : Kept [] w W
theorem Sr6.ret {w W : World} {b base g : Nat} {c : Cfg} {n : Nat} {f : Rd} {cs : List Int} {cnt : Int} {a : Acc} {A M G : Array Value} (h : Sr6 w W b base g c n f cs cnt a A M G) : Tr6 w (((W.drew.setRow (b + 1 + 1 + 1) A).setRow (b + 1 + 1 + 1 + 1) M).setRow (b + 1 + 1 + 1 + 1 + 1) G) b base g c n f cs cnt a A M G := by
  have kd := (Kept.refl [] W).drew
  have x0 := h.r.x.kept kd (by simp)
  have y0 := h.r.y.kept kd (by simp)
  have z0 := h.r.z.kept kd (by simp)
  have f0 := h.f.new kd
  have v0 := h.v.new kd
  have k0 := h.r.k.trans kd
  have y1 := y0.rowOther A (c := (b + 1 + 1 + 1)) (by omega)
  have z1 := z0.rowOther A (c := (b + 1 + 1 + 1)) (by omega)
  have z2 := z1.rowOther M (c := (b + 1 + 1 + 1 + 1)) (by omega)
  have f1 := f0.far1 x0 (by decide) (k_row _ _ A)
  have v1 := v0.one x0 (by decide) (k_row _ _ A)
  have f2 := f1.far1 y1 (by decide) (k_row _ _ M)
  have v2 := v1.one y1 (by decide) (k_row _ _ M)
  have o := h.r.old
  exact ⟨((x0.row A).rowOther M (by omega)).rowOther G (by omega), (y1.row M).rowOther G (by omega), z2.row G, f2.far1 z2 (by decide) (k_row _ _ G), v2.one z2 (by decide) (k_row _ _ G), ((k0.setRow (Or.inr (by omega)) A).setRow (Or.inr (by omega)) M).setRow (Or.inr (by omega)) G⟩
/-- The find in its midst is written. -/
theorem Pr6.cells {w W : World} {b : Nat} {A M G : Array Value} (h : Pr6 w W b A M G) (o : Nat) (vs : List Value) : Pr6 w (W.setCells b o vs) b (setFrom A o vs) M G := by
  have k : Kept [b] W (W.setCells b o vs) := kept_cells b vs o (Kept.refl [b] W)
  exact ⟨RW.cellsFrom vs o h.f, h.m.kept k (by simp), h.g.kept k (by simp; omega), h.x.kept k (by simp; omega), h.y.kept k (by simp; omega), h.z.kept k (by simp; omega), h.k.then k (by simp; exact h.old), h.old⟩
end K
end Go.Proofs.YtgafmklfpiipcaaGreatDoor
namespace Go.Proofs.YtgafmklfpiipcaaGreatDoor
open Go.RowKit (Grown Hid Below)
open Go.Deep
namespace K
set_option maxRecDepth 100000
theorem nin1 {x a : Nat} (h : ¬ x = a) : x ∉ [a] := by simp [h]
theorem raddW (c : Cfg) (g : Nat) (cs : List Int) (cap : Nat) (cnt : Int) (a : Acc) (h f v : Int) (w : World) (hR : RowR w g cs cap) (hl : cs.length ≤ 17592186044415) (h0 : isW h) (c0 : 0 ≤ cnt) (c1 : cnt < 4611686018427387904) :
    Calls Tryz.prog 33 #[.agg (rmA c (some ⟨g, 0, none⟩) cs.length cap cnt a), .int .u64 h, .int .i64 f, .int .u64 v] w fun e w' => ∃ B, e = .returned (.tuple #[.agg B, .int .u64 (fd c cs (ixV h) f)]) ∧ Wv w g c cs.length (clV cs 4 (clV' c (ixV h) f) 0 v) (cnt + 1) (acV cs 4 (clV' c (ixV h) f) (plainV h) 0 v) B w' ∧ Kept [] w w' := by
  refine (qadd_any c g cs cap cnt a h f v w hR hl h0.1 h0.2 c0 c1).mono ?_
  rintro e w' ⟨g', c', rfl, h1, h2, k⟩
  rw [add_o]
  exact ⟨_, rfl, ⟨g', c', rfl, h1, h2⟩, k⟩
theorem rclockW (c : Cfg) (g : Nat) (cs : List Int) (cap : Nat) (cnt : Int) (a : Acc) (w : World) (hR : RowR w g cs cap) (hl : cs.length ≤ 17592186044415) (c0 : 0 ≤ cnt) (c1 : cnt < 4611686018427387904) :
    Calls Tryz.prog 36 #[.agg (rmA c (some ⟨g, 0, none⟩) cs.length cap cnt a)] w fun e w' => ∃ B, e = .returned (.tuple #[.agg B, .int .u64 (rdG cs 0)]) ∧ Wv w g c cs.length cs (cnt + 1) (acV cs 1 0 0 0 0) B w' ∧ Kept [] w w' := by
  refine (qclock_any c g cs cap cnt a w hR hl c0 c1).mono ?_
  rintro e w' ⟨g', c', rfl, h1, h2, k⟩
  rw [clV_load] at h2
  rw [ld_o]
  exact ⟨_, rfl, ⟨g', c', rfl, h1, h2⟩, k⟩
/-- What a step of the document's retire starts from. -/
structure SR (base : Nat) (w : World) (g : Nat) (c : Cfg) (s : Rd) (X : Array Value) (gs : Gs) (cs : List Int) (cap : Nat) (cnt : Int) : Prop where
  rt : RT base w s X
  hW : isW s.h
  row : RowR w g cs cap
  hl : cs.length ≤ 17592186044415
  c0 : 0 ≤ cnt
  c1 : cnt < 4611686018427387904
  R : Rt c
  ri : RtI c s.m
  wd : Wds cs
  hb : base ≤ w.heap.size
  u0 : 0 ≤ gs.u
  u1 : gs.u ≤ c.s
/-- The machine, the words in a block of their own, and the blocks. -/
structure Vr6 (w W : World) (b d base g : Nat) (c : Cfg) (n : Nat) (s : Rd) (cs : List Int) (cnt : Int) (a : Acc) (X M B G : Array Value) : Prop where
  r : Pr6 w W b X M G
  f : RT base W s X
  m : RW 35 W d B
  v : Wv w g c n cs cnt a B W
  hd : d = b + 1 ∨ b + 1 + 1 + 1 + 1 + 1 < d
theorem Vr6.new {w W V : World} {b d base g : Nat} {c : Cfg} {n : Nat} {s : Rd} {cs : List Int} {cnt : Int} {a : Acc} {X M B G : Array Value} (h : Vr6 w W b d base g c n s cs cnt a X M B G) (k : Kept [] W V) : Vr6 w V b d base g c n s cs cnt a X M B G :=
  ⟨h.r.new k, h.f.new k, h.m.kept k (by simp), h.v.new k, h.hd⟩
theorem Vr6.cell {w W : World} {b d base g : Nat} {c : Cfg} {n : Nat} {s s' : Rd} {cs : List Int} {cnt : Int} {a : Acc} {X M B G : Array Value} {i : Nat} {v : Value} (h : Vr6 w W b d base g c n s cs cnt a X M B G) (hf : RT base W s' (X.setIfInBounds i v)) : Vr6 w (W.setCell ⟨b, i, none⟩ v) b d base g c n s' cs cnt a (X.setIfInBounds i v) M B G :=
  ⟨h.r.cell i v, hf.far1 h.r.f (by decide) (k_cell W b i v), h.m.kept (k_cell W b i v) (nin1 (by have := h.hd; omega)), h.v.one h.r.f (by decide) (k_cell W b i v), h.hd⟩
theorem Vr6.cells {w W : World} {b d base g : Nat} {c : Cfg} {n : Nat} {s : Rd} {cs : List Int} {cnt : Int} {a : Acc} {X M B G A' : Array Value} {f' : Fm} (h : Vr6 w W b d base g c n s cs cnt a X M B G) (hf : RF base W f' A') : Vr6 w (W.setCells b 2 A'.toList) b d base g c n { s with f := f' } cs cnt a (setFrom X 2 A'.toList) M B G := by
  have k : Kept [b] W (W.setCells b 2 A'.toList) := kept_cells b A'.toList 2 (Kept.refl [b] W)
  exact ⟨h.r.cells 2 A'.toList, (h.f.setf hf).far1 h.r.f (by decide) k, h.m.kept k (nin1 (by have := h.hd; omega)), h.v.one h.r.f (by decide) k, h.hd⟩
theorem Vr6.nx {w W : World} {b d base g : Nat} {c : Cfg} {n : Nat} {s : Rd} {cs : List Int} {cnt : Int} {a : Acc} {X M B G : Array Value} (h : Vr6 w W b d base g c n s cs cnt a X M B G) (v : Nat) : Vr6 w (W.setCell ⟨b, 1, none⟩ (.int .i64 v)) b d base g c n { s with nx := v } cs cnt a (X.setIfInBounds 1 (.int .i64 v)) M B G := h.cell (h.f.setnx v)
theorem Vr6.la {w W : World} {b d base g : Nat} {c : Cfg} {n : Nat} {s : Rd} {cs : List Int} {cnt : Int} {a : Acc} {X M B G : Array Value} (h : Vr6 w W b d base g c n s cs cnt a X M B G) (v : Bool) : Vr6 w (W.setCell ⟨b, 14, none⟩ (.bool v)) b d base g c n { s with la := v } cs cnt a (X.setIfInBounds 14 (.bool v)) M B G := h.cell (h.f.setla v)
theorem Vr6.nd {w W : World} {b d base g : Nat} {c : Cfg} {n : Nat} {s : Rd} {cs : List Int} {cnt : Int} {a : Acc} {X M B G : Array Value} (h : Vr6 w W b d base g c n s cs cnt a X M B G) (v : Int) : Vr6 w (W.setCell ⟨b, 15, none⟩ (.int .u64 v)) b d base g c n { s with nd := v } cs cnt a (X.setIfInBounds 15 (.int .u64 v)) M B G := h.cell (h.f.setnd v)
theorem Vr6.bi {w W : World} {b d base g : Nat} {c : Cfg} {n : Nat} {s : Rd} {cs : List Int} {cnt : Int} {a : Acc} {X M B G : Array Value} (h : Vr6 w W b d base g c n s cs cnt a X M B G) (v : Int) : Vr6 w (W.setCell ⟨b, 16, none⟩ (.int .u64 v)) b d base g c n { s with bi := v } cs cnt a (X.setIfInBounds 16 (.int .u64 v)) M B G := h.cell (h.f.setbi v)
theorem Vr6.er {w W : World} {b d base g : Nat} {c : Cfg} {n : Nat} {s : Rd} {cs : List Int} {cnt : Int} {a : Acc} {X M B G : Array Value} (h : Vr6 w W b d base g c n s cs cnt a X M B G) (v : Int) : Vr6 w (W.setCell ⟨b, 17, none⟩ (.int .u64 v)) b d base g c n { s with er := v } cs cnt a (X.setIfInBounds 17 (.int .u64 v)) M B G := h.cell (h.f.seter v)
theorem Vr6.dn {w W : World} {b d base g : Nat} {c : Cfg} {n : Nat} {s : Rd} {cs : List Int} {cnt : Int} {a : Acc} {X M B G : Array Value} (h : Vr6 w W b d base g c n s cs cnt a X M B G) (v : Bool) : Vr6 w (W.setCell ⟨b, 18, none⟩ (.bool v)) b d base g c n { s with d := v } cs cnt a (X.setIfInBounds 18 (.bool v)) M B G := h.cell (h.f.setd v)
theorem Vr6.ret {w W : World} {b d base g : Nat} {c : Cfg} {n : Nat} {s : Rd} {cs : List Int} {cnt : Int} {a : Acc} {X M B G : Array Value} (h : Vr6 w W b d base g c n s cs cnt a X M B G) : Tr6 w (((W.drew.setRow (b + 1 + 1 + 1) X).setRow (b + 1 + 1 + 1 + 1) B).setRow (b + 1 + 1 + 1 + 1 + 1) G) b base g c n s cs cnt a X B G := by
  have kd := (Kept.refl [] W).drew
  have x0 := h.r.x.kept kd (by simp)
  have y0 := h.r.y.kept kd (by simp)
  have z0 := h.r.z.kept kd (by simp)
  have f0 := h.f.new kd
  have v0 := h.v.new kd
  have k0 := h.r.k.trans kd
  have y1 := y0.rowOther X (c := (b + 1 + 1 + 1)) (by omega)
  have z1 := z0.rowOther X (c := (b + 1 + 1 + 1)) (by omega)
  have z2 := z1.rowOther B (c := (b + 1 + 1 + 1 + 1)) (by omega)
  have f1 := f0.far1 x0 (by decide) (k_row _ _ X)
  have v1 := v0.one x0 (by decide) (k_row _ _ X)
  have f2 := f1.far1 y1 (by decide) (k_row _ _ B)
  have v2 := v1.one y1 (by decide) (k_row _ _ B)
  have o := h.r.old
  exact ⟨((x0.row X).rowOther B (by omega)).rowOther G (by omega), (y1.row B).rowOther G (by omega), z2.row G, f2.far1 z2 (by decide) (k_row _ _ G), v2.one z2 (by decide) (k_row _ _ G), ((k0.setRow (Or.inr (by omega)) X).setRow (Or.inr (by omega)) B).setRow (Or.inr (by omega)) G⟩
set_option maxHeartbeats 8000000 in
theorem rtsd_any {base g : Nat} {c : Cfg} {s : Rd} {X : Array Value} {gs : Gs} {cs : List Int} {cap : Nat} {cnt : Int} {w : World} (a : Acc) (S : SR base w g c s X gs cs cap cnt) (hd : s.d = true) :
    Calls Tryz.prog 11 #[.agg X, .agg (rmA c (some ⟨g, 0, none⟩) cs.length cap cnt a), .agg (rgA gs)] w fun e w' => ∃ Y B, e = .returned (.tuple #[.agg Y, .agg B, .agg (rgA gs)]) ∧ RT base w' s Y ∧ Wv w g c cs.length cs cnt a B w' ∧ Kept [] w w' := by
  obtain ⟨hRB, hW, hR, hl, c0, c1, R, ri, wd, hb, u0, u1⟩ := S
  obtain ⟨n, hn⟩ : ∃ n, n = cs.length := ⟨_, rfl⟩
  obtain ⟨M, hM⟩ : ∃ M, M = rmA c (some ⟨g, 0, none⟩) cs.length cap cnt a := ⟨_, rfl⟩
  have hM15 : M.size = 15 := by rw [hM]; rfl
  have hMv : Wv w g c cs.length cs cnt a M w := ⟨g, cap, hM, Or.inl rfl, hR⟩
  rw [← hM]
  rw [← hn] at hMv ⊢
  obtain ⟨k0, k1, k14, k15, k16, k17, k18⟩ := hRB.cells
  have s19 := hRB.size
  rw [hd] at k18
  obtain ⟨b, hbw⟩ : ∃ b, b = w.heap.size := ⟨_, rfl⟩
  have ST := hidOf (show Sr6 w _ b base g c n s cs cnt a X M (rgA gs) from ⟨Pr6.start w X M (rgA gs) hbw, hRB.new (Pr6.start w X M (rgA gs) hbw).k, hMv.new (Pr6.start w X M (rgA gs) hbw).k⟩)
  clear hRB hR hl hM hn R ri wd hMv
  go_enter Tryz.func11, Tryz.ntmps11
  go_upto_region 1 with (fail)
  rw [← hbw]
  refine gen_world (fun W => Sr6 w W b base g c n s cs cnt a X M (rgA gs)) ST.out ?_
  have hbb : w.heap.size ≤ b := by omega
  clear ST hbw
  rintro W Q0
  have p18 := cell_of_blk Q0.r.f (i := 18) k18
  have V0 : Vr6 w W b (b + 1) base g c n s cs cnt a X M M (rgA gs) := ⟨Q0.r, Q0.f, Q0.r.m, Q0.v, Or.inl rfl⟩
  clear Q0
  go_upto_region 2 with (fail)
  refine wp_ret3 isT_rt isT_rm isT_rg (by kernel_rfl) (by kernel_rfl) (by kernel_rfl) (fun _ _ _ _ _ h => h) b (b + 1) (b + 1 + 1) (b + 1 + 1 + 1) (b + 1 + 1 + 1 + 1) (b + 1 + 1 + 1 + 1 + 1) X M (rgA gs) rtZ rmZ rgZ V0.f.size V0.v.size rfl V0.f.one V0.v.allOne (rg_one _) rfl rfl rfl V0.r.f V0.m V0.r.g V0.r.x V0.r.y V0.r.z (by omega) (by have := V0.hd; omega) (by omega) (by omega) rfl rfl rfl rfl rfl rfl rfl rfl rfl ?_
  simp only [Act.put, List.setIfInBounds_toArray, List.set_cons_zero, List.set_cons_succ]
  have EE := V0.ret
  have sx := V0.f.size
  have sm := V0.v.size
  go_wp2
  refine bodyPost_ret (v := .tuple #[.agg X, .agg M, .agg (rgA gs)]) (results_rw3 Tryz.results11 isT_rt isT_rm isT_rg _ _ (b + 1 + 1 + 1) (b + 1 + 1 + 1 + 1) (b + 1 + 1 + 1 + 1 + 1) X M (rgA gs) sx sm rfl rfl rfl rfl EE.x EE.y EE.z) rfl ⟨_, _, rfl, EE.f, EE.v, EE.k⟩
set_option maxHeartbeats 8000000 in
theorem rts0_any {base g : Nat} {c : Cfg} {s : Rd} {X : Array Value} {gs : Gs} {cs : List Int} {cap : Nat} {cnt : Int} {w : World} (a : Acc) (S : SR base w g c s X gs cs cap cnt) (hd : s.d = false) (hnx : s.nx = 0) :
    Calls Tryz.prog 11 #[.agg X, .agg (rmA c (some ⟨g, 0, none⟩) cs.length cap cnt a), .agg (rgA gs)] w fun e w' => ∃ Y B, e = .returned (.tuple #[.agg Y, .agg B, .agg (rgA gs)]) ∧ RT base w' { s with la := decide (fd c cs (ixV s.h) 5 = 1), d := !decide (fd c cs (ixV s.h) 5 = 1), nx := 1 } Y ∧ Wv w g c cs.length (clV cs 4 (clV' c (ixV s.h) 5) 0 oneL) (cnt + 1) (acV cs 4 (clV' c (ixV s.h) 5) (plainV s.h) 0 oneL) B w' ∧ Kept [] w w' := by
  obtain ⟨hRB, hW, hR, hl, c0, c1, R, ri, wd, hb, u0, u1⟩ := S
  have HC := hidOf (fun (W : World) (k : Kept [] w W) => raddW c g cs cap cnt a s.h 5 18446744073709551615 W (hR.kept k (by simp)) hl hW c0 c1)
  obtain ⟨O, hO⟩ : ∃ O, O = fd c cs (ixV s.h) 5 := ⟨_, rfl⟩
  rw [← hO] at HC ⊢
  clear hO
  rw [show oneL = 18446744073709551615 from rfl]
  generalize acV cs 4 (clV' c (ixV s.h) 5) (plainV s.h) 0 18446744073709551615 = AC at HC ⊢
  generalize clV cs 4 (clV' c (ixV s.h) 5) 0 18446744073709551615 = CS at HC ⊢
  obtain ⟨QS, hQS⟩ : ∃ Q : Rd, Q = { s with la := decide (O = 1), d := !decide (O = 1), nx := 1 } := ⟨_, rfl⟩
  rw [← hQS]
  have HQS := hidOf hQS
  clear hQS
  obtain ⟨n, hn⟩ : ∃ n, n = cs.length := ⟨_, rfl⟩
  obtain ⟨M, hM⟩ : ∃ M, M = rmA c (some ⟨g, 0, none⟩) cs.length cap cnt a := ⟨_, rfl⟩
  have hM15 : M.size = 15 := by rw [hM]; rfl
  have hMv : Wv w g c cs.length cs cnt a M w := ⟨g, cap, hM, Or.inl rfl, hR⟩
  rw [← hM] at HC ⊢
  rw [← hn] at HC hMv ⊢
  obtain ⟨k0, k1, k14, k15, k16, k17, k18⟩ := hRB.cells
  have s19 := hRB.size
  rw [hd] at k18
  rw [hnx] at k1
  obtain ⟨b, hbw⟩ : ∃ b, b = w.heap.size := ⟨_, rfl⟩
  have ST := hidOf (show Sr6 w _ b base g c n s cs cnt a X M (rgA gs) from ⟨Pr6.start w X M (rgA gs) hbw, hRB.new (Pr6.start w X M (rgA gs) hbw).k, hMv.new (Pr6.start w X M (rgA gs) hbw).k⟩)
  clear hR hl hM hn R wd hMv
  go_enter Tryz.func11, Tryz.ntmps11
  go_upto_region 1 with (fail)
  rw [← hbw]
  refine gen_world (fun W => Sr6 w W b base g c n s cs cnt a X M (rgA gs)) ST.out ?_
  have hbb : w.heap.size ≤ b := by omega
  clear ST hbw hRB
  rintro W Q0
  have p18 := cell_of_blk Q0.r.f (i := 18) k18
  have p1 := cell_of_blk Q0.r.f (i := 1) k1
  have p0 := cell_of_blk Q0.r.f (i := 0) k0
  have Q1 := hidOf Q0
  clear Q0
  have QM := Q1.out.r.m
  go_wp2_with (first
    | ((with_reducible change wpList _ _ _ (Oper.mk _ (Op.load 35 (Operand.tmp 4)) _ _ _ _ :: _) _ _); refine wpList_load_rw 35 isT_rm rfl (.tmp 4) rfl (b + 1) rfl M hM15 QM ?_))
  refine (HC.out _ Q1.out.r.k).mono ?_
  rintro e w2 ⟨B, rfl, WV', K2⟩
  clear HC QM
  have WV := WV'.old (w := w) (by have := Q1.out.r.k.size; omega)
  have sB := WV.size
  have oB := WV.allOne
  have V1 := hidOf (And.intro (Q1.out.new K2) WV)
  obtain ⟨d, hdw⟩ : ∃ d, d = w2.heap.size := ⟨_, rfl⟩
  clear Q1 WV WV' p18 p1 p0
  go_upto_region 6 with (first
    | ((with_reducible change wpList _ _ _ (Oper.mk _ (Op.store 35 (Operand.tmp 9) _) _ _ _ _ :: _) _ _); refine wpList_store_rw 35 isT_rm rfl (.tmp 9) (.tmp 32) rfl w2.heap.size B rfl rfl sB oB rmZ (RW.new 35 w2 rmZ) rfl ?_))
  rw [← hdw]
  refine gen_world (fun V => Vr6 w V b d base g c n s CS (cnt + 1) AC X M B (rgA gs)) ?_ ?_
  · have kk := ((Kept.refl [] w2).alloc (.cells rmZ 35)).setRow (b := d) (Or.inr (by omega)) B
    have zz := V1.out.1.r.z.lt
    refine ⟨V1.out.1.r.new kk, V1.out.1.f.new kk, ?_, V1.out.2.new kk, Or.inr (by omega)⟩
    rw [hdw]; exact (RW.new 35 w2 rmZ).row _
  clear V1 hdw K2
  rintro V Q3
  have sX := Q3.f.size
  have p14 := cell_of_blk Q3.r.f (i := 14) k14
  have p18 := cell_of_blk Q3.r.f (i := 18) k18
  have p1 := cell_of_blk Q3.r.f (i := 1) k1
  have pf := free_of_blk Q3.r.f
  have pl := lt_of_blk Q3.r.f
  have HV := hidOf Q3
  clear Q3
  by_cases hE : O = 1
  ·
    have hEb : (O == 1) = true := by simp [hE]
    have hEd : decide (O = 1) = true := by simp [hE]
    have HV1 := hidOf (HV.out.la true)
    go_upto_region 7 with (fail)
    refine gen_world (fun V => Vr6 w V b d base g c n { s with la := true } CS (cnt + 1) AC (X.setIfInBounds 14 (.bool true)) M B (rgA gs)) HV1.out ?_
    clear HV HV1 p14 p18 p1 pf pl
    rintro V4 Q4
    have s14 : (X.setIfInBounds 14 (.bool true))[14]? = some (.bool true) := by simp [sX]
    have s18 : (X.setIfInBounds 14 (.bool true))[18]? = some (.bool false) := by rw [← k18]; simp
    have s1 : (X.setIfInBounds 14 (.bool true))[1]? = some (.int .i64 ((0 : Nat) : Int)) := by rw [← k1]; simp
    have p1 := cell_of_blk Q4.r.f (i := 1) s1
    have p14 := cell_of_blk Q4.r.f (i := 14) s14
    have p18 := cell_of_blk Q4.r.f (i := 18) s18
    have pf := free_of_blk Q4.r.f
    have pl := lt_of_blk Q4.r.f
    have HV4 := hidOf Q4
    have HV5 := hidOf ((Q4.dn false).nx 1)
    clear Q4
    go_upto_region 9 with (fail)
    refine gen_world (fun V => Vr6 w V b d base g c n { s with la := true, d := false, nx := 1 } CS (cnt + 1) AC (((X.setIfInBounds 14 (.bool true)).setIfInBounds 18 (.bool false)).setIfInBounds 1 (.int .i64 ((1 : Nat) : Int))) M B (rgA gs)) HV5.out ?_
    clear HV4 HV5 p14 p18 p1 pf pl s14 s18 s1
    rintro V7 Q7
    generalize ((X.setIfInBounds 14 (.bool true)).setIfInBounds 18 (.bool false)).setIfInBounds 1 (.int .i64 ((1 : Nat) : Int)) = Y at Q7 ⊢
    go_upto_region 9 with (fail)
    refine wp_ret3 isT_rt isT_rm isT_rg (by kernel_rfl) (by kernel_rfl) (by kernel_rfl) (fun _ _ _ _ _ h => h) b d (b + 1 + 1) (b + 1 + 1 + 1) (b + 1 + 1 + 1 + 1) (b + 1 + 1 + 1 + 1 + 1) Y B (rgA gs) rtZ rmZ rgZ Q7.f.size Q7.v.size rfl Q7.f.one Q7.v.allOne (rg_one _) rfl rfl rfl Q7.r.f Q7.m Q7.r.g Q7.r.x Q7.r.y Q7.r.z (by omega) (by have := Q7.hd; omega) (by omega) (by omega) rfl rfl rfl rfl rfl rfl rfl rfl rfl ?_
    simp only [Act.put, List.setIfInBounds_toArray, List.set_cons_zero, List.set_cons_succ]
    have EE := Q7.ret
    have sx := Q7.f.size
    have sm := Q7.v.size
    go_wp2
    refine bodyPost_ret (v := .tuple #[.agg Y, .agg B, .agg (rgA gs)]) (results_rw3 Tryz.results11 isT_rt isT_rm isT_rg _ _ (b + 1 + 1 + 1) (b + 1 + 1 + 1 + 1) (b + 1 + 1 + 1 + 1 + 1) Y B (rgA gs) sx sm rfl rfl rfl rfl EE.x EE.y EE.z) rfl ⟨_, _, rfl, (by rw [HQS.out, hEd]; exact EE.f), EE.v, EE.k⟩
  ·
    have hEb : (O == 1) = false := by simp [hE]
    have hEd : decide (O = 1) = false := by simp [hE]
    have HV1 := hidOf (HV.out.la false)
    go_upto_region 7 with (fail)
    refine gen_world (fun V => Vr6 w V b d base g c n { s with la := false } CS (cnt + 1) AC (X.setIfInBounds 14 (.bool false)) M B (rgA gs)) HV1.out ?_
    clear HV HV1 p14 p18 p1 pf pl
    rintro V4 Q4
    have s14 : (X.setIfInBounds 14 (.bool false))[14]? = some (.bool false) := by simp [sX]
    have s18 : (X.setIfInBounds 14 (.bool false))[18]? = some (.bool false) := by rw [← k18]; simp
    have s1 : (X.setIfInBounds 14 (.bool false))[1]? = some (.int .i64 ((0 : Nat) : Int)) := by rw [← k1]; simp
    have p1 := cell_of_blk Q4.r.f (i := 1) s1
    have p14 := cell_of_blk Q4.r.f (i := 14) s14
    have p18 := cell_of_blk Q4.r.f (i := 18) s18
    have pf := free_of_blk Q4.r.f
    have pl := lt_of_blk Q4.r.f
    have HV4 := hidOf Q4
    have HV5 := hidOf ((Q4.dn true).nx 1)
    clear Q4
    go_upto_region 9 with (fail)
    refine gen_world (fun V => Vr6 w V b d base g c n { s with la := false, d := true, nx := 1 } CS (cnt + 1) AC (((X.setIfInBounds 14 (.bool false)).setIfInBounds 18 (.bool true)).setIfInBounds 1 (.int .i64 ((1 : Nat) : Int))) M B (rgA gs)) HV5.out ?_
    clear HV4 HV5 p14 p18 p1 pf pl s14 s18 s1
    rintro V7 Q7
    generalize ((X.setIfInBounds 14 (.bool false)).setIfInBounds 18 (.bool true)).setIfInBounds 1 (.int .i64 ((1 : Nat) : Int)) = Y at Q7 ⊢
    go_upto_region 9 with (fail)
    refine wp_ret3 isT_rt isT_rm isT_rg (by kernel_rfl) (by kernel_rfl) (by kernel_rfl) (fun _ _ _ _ _ h => h) b d (b + 1 + 1) (b + 1 + 1 + 1) (b + 1 + 1 + 1 + 1) (b + 1 + 1 + 1 + 1 + 1) Y B (rgA gs) rtZ rmZ rgZ Q7.f.size Q7.v.size rfl Q7.f.one Q7.v.allOne (rg_one _) rfl rfl rfl Q7.r.f Q7.m Q7.r.g Q7.r.x Q7.r.y Q7.r.z (by omega) (by have := Q7.hd; omega) (by omega) (by omega) rfl rfl rfl rfl rfl rfl rfl rfl rfl ?_
    simp only [Act.put, List.setIfInBounds_toArray, List.set_cons_zero, List.set_cons_succ]
    have EE := Q7.ret
    have sx := Q7.f.size
    have sm := Q7.v.size
    go_wp2
    refine bodyPost_ret (v := .tuple #[.agg Y, .agg B, .agg (rgA gs)]) (results_rw3 Tryz.results11 isT_rt isT_rm isT_rg _ _ (b + 1 + 1 + 1) (b + 1 + 1 + 1 + 1) (b + 1 + 1 + 1 + 1 + 1) Y B (rgA gs) sx sm rfl rfl rfl rfl EE.x EE.y EE.z) rfl ⟨_, _, rfl, (by rw [HQS.out, hEd]; exact EE.f), EE.v, EE.k⟩
set_option maxHeartbeats 8000000 in
theorem rts2_any {base g : Nat} {c : Cfg} {s : Rd} {X : Array Value} {gs : Gs} {cs : List Int} {cap : Nat} {cnt : Int} {w : World} (a : Acc) (S : SR base w g c s X gs cs cap cnt) (hd : s.d = false) (hnx : s.nx = 2) :
    Calls Tryz.prog 11 #[.agg X, .agg (rmA c (some ⟨g, 0, none⟩) cs.length cap cnt a), .agg (rgA gs)] w fun e w' => ∃ Y B, e = .returned (.tuple #[.agg Y, .agg B, .agg (rgA gs)]) ∧ RT base w' { s with bi := fd c cs (ixV s.h) 3, nx := 3 } Y ∧ Wv w g c cs.length cs (cnt + 1) (acV cs 1 (clV' c (ixV s.h) 3) (plainV s.h) 0 0) B w' ∧ Kept [] w w' := by
  obtain ⟨hRB, hW, hR, hl, c0, c1, R, ri, wd, hb, u0, u1⟩ := S
  have HC := hidOf (fun (W : World) (k : Kept [] w W) => rloadW c g cs cap cnt a s.h 3 W (hR.kept k (by simp)) hl hW c0 c1)
  obtain ⟨O, hO⟩ : ∃ O, O = fd c cs (ixV s.h) 3 := ⟨_, rfl⟩
  rw [← hO] at HC ⊢
  clear hO
  generalize acV cs 1 (clV' c (ixV s.h) 3) (plainV s.h) 0 0 = AC at HC ⊢
  obtain ⟨QS, hQS⟩ : ∃ Q : Rd, Q = { s with bi := O, nx := 3 } := ⟨_, rfl⟩
  rw [← hQS]
  have HQS := hidOf hQS
  clear hQS
  obtain ⟨n, hn⟩ : ∃ n, n = cs.length := ⟨_, rfl⟩
  obtain ⟨M, hM⟩ : ∃ M, M = rmA c (some ⟨g, 0, none⟩) cs.length cap cnt a := ⟨_, rfl⟩
  have hM15 : M.size = 15 := by rw [hM]; rfl
  have hMv : Wv w g c cs.length cs cnt a M w := ⟨g, cap, hM, Or.inl rfl, hR⟩
  rw [← hM] at HC ⊢
  rw [← hn] at HC hMv ⊢
  obtain ⟨k0, k1, k14, k15, k16, k17, k18⟩ := hRB.cells
  have s19 := hRB.size
  rw [hd] at k18
  rw [hnx] at k1
  obtain ⟨b, hbw⟩ : ∃ b, b = w.heap.size := ⟨_, rfl⟩
  have ST := hidOf (show Sr6 w _ b base g c n s cs cnt a X M (rgA gs) from ⟨Pr6.start w X M (rgA gs) hbw, hRB.new (Pr6.start w X M (rgA gs) hbw).k, hMv.new (Pr6.start w X M (rgA gs) hbw).k⟩)
  clear hR hl hM hn R wd hMv
  go_enter Tryz.func11, Tryz.ntmps11
  go_upto_region 1 with (fail)
  rw [← hbw]
  refine gen_world (fun W => Sr6 w W b base g c n s cs cnt a X M (rgA gs)) ST.out ?_
  have hbb : w.heap.size ≤ b := by omega
  clear ST hbw hRB
  rintro W Q0
  have p18 := cell_of_blk Q0.r.f (i := 18) k18
  have p1 := cell_of_blk Q0.r.f (i := 1) k1
  have p0 := cell_of_blk Q0.r.f (i := 0) k0
  have Q1 := hidOf Q0
  clear Q0
  have QM := Q1.out.r.m
  go_wp2_with (first
    | ((with_reducible change wpList _ _ _ (Oper.mk _ (Op.load 35 (Operand.tmp 4)) _ _ _ _ :: _) _ _); refine wpList_load_rw 35 isT_rm rfl (.tmp 4) rfl (b + 1) rfl M hM15 QM ?_))
  refine (HC.out _ Q1.out.r.k).mono ?_
  rintro e w2 ⟨B, rfl, WV', K2⟩
  clear HC QM
  have WV := WV'.old (w := w) (by have := Q1.out.r.k.size; omega)
  have sB := WV.size
  have oB := WV.allOne
  have V1 := hidOf (And.intro (Q1.out.new K2) WV)
  obtain ⟨d, hdw⟩ : ∃ d, d = w2.heap.size := ⟨_, rfl⟩
  clear Q1 WV WV' p18 p1 p0
  go_upto_region 18 with (first
    | ((with_reducible change wpList _ _ _ (Oper.mk _ (Op.store 35 (Operand.tmp 14) _) _ _ _ _ :: _) _ _); refine wpList_store_rw 35 isT_rm rfl (.tmp 14) (.tmp 71) rfl w2.heap.size B rfl rfl sB oB rmZ (RW.new 35 w2 rmZ) rfl ?_))
  rw [← hdw]
  refine gen_world (fun V => Vr6 w V b d base g c n s cs (cnt + 1) AC X M B (rgA gs)) ?_ ?_
  · have kk := ((Kept.refl [] w2).alloc (.cells rmZ 35)).setRow (b := d) (Or.inr (by omega)) B
    have zz := V1.out.1.r.z.lt
    refine ⟨V1.out.1.r.new kk, V1.out.1.f.new kk, ?_, V1.out.2.new kk, Or.inr (by omega)⟩
    rw [hdw]; exact (RW.new 35 w2 rmZ).row _
  clear V1 hdw K2
  rintro V Q3
  have p16 := cell_of_blk Q3.r.f (i := 16) k16
  have p1 := cell_of_blk Q3.r.f (i := 1) k1
  have pf := free_of_blk Q3.r.f
  have pl := lt_of_blk Q3.r.f
  have HV2 := hidOf ((Q3.bi O).nx 3)
  clear Q3
  go_upto_region 20 with (fail)
  refine gen_world (fun V => Vr6 w V b d base g c n { s with bi := O, nx := 3 } cs (cnt + 1) AC ((X.setIfInBounds 16 (.int .u64 O)).setIfInBounds 1 (.int .i64 ((3 : Nat) : Int))) M B (rgA gs)) HV2.out ?_
  clear HV2 p16 p1 pf pl
  rintro V7 Q7
  generalize (X.setIfInBounds 16 (.int .u64 O)).setIfInBounds 1 (.int .i64 ((3 : Nat) : Int)) = Y at Q7 ⊢
  go_upto_region 20 with (fail)
  refine wp_ret3 isT_rt isT_rm isT_rg (by kernel_rfl) (by kernel_rfl) (by kernel_rfl) (fun _ _ _ _ _ h => h) b d (b + 1 + 1) (b + 1 + 1 + 1) (b + 1 + 1 + 1 + 1) (b + 1 + 1 + 1 + 1 + 1) Y B (rgA gs) rtZ rmZ rgZ Q7.f.size Q7.v.size rfl Q7.f.one Q7.v.allOne (rg_one _) rfl rfl rfl Q7.r.f Q7.m Q7.r.g Q7.r.x Q7.r.y Q7.r.z (by omega) (by have := Q7.hd; omega) (by omega) (by omega) rfl rfl rfl rfl rfl rfl rfl rfl rfl ?_
  simp only [Act.put, List.setIfInBounds_toArray, List.set_cons_zero, List.set_cons_succ]
  have EE := Q7.ret
  have sx := Q7.f.size
  have sm := Q7.v.size
  go_wp2
  refine bodyPost_ret (v := .tuple #[.agg Y, .agg B, .agg (rgA gs)]) (results_rw3 Tryz.results11 isT_rt isT_rm isT_rg _ _ (b + 1 + 1 + 1) (b + 1 + 1 + 1 + 1) (b + 1 + 1 + 1 + 1 + 1) Y B (rgA gs) sx sm rfl rfl rfl rfl EE.x EE.y EE.z) rfl ⟨_, _, rfl, (by rw [HQS.out]; exact EE.f), EE.v, EE.k⟩
set_option maxHeartbeats 8000000 in
theorem rts3_any {base g : Nat} {c : Cfg} {s : Rd} {X : Array Value} {gs : Gs} {cs : List Int} {cap : Nat} {cnt : Int} {w : World} (a : Acc) (S : SR base w g c s X gs cs cap cnt) (hd : s.d = false) (hnx : s.nx = 3) :
    Calls Tryz.prog 11 #[.agg X, .agg (rmA c (some ⟨g, 0, none⟩) cs.length cap cnt a), .agg (rgA gs)] w fun e w' => ∃ Y B, e = .returned (.tuple #[.agg Y, .agg B, .agg (rgA gs)]) ∧ RT base w' { s with er := rdG cs 0, nd := plainV s.h, d := true } Y ∧ Wv w g c cs.length cs (cnt + 1) (acV cs 1 0 0 0 0) B w' ∧ Kept [] w w' := by
  obtain ⟨hRB, hW, hR, hl, c0, c1, R, ri, wd, hb, u0, u1⟩ := S
  have HC := hidOf (fun (W : World) (k : Kept [] w W) => rclockW c g cs cap cnt a W (hR.kept k (by simp)) hl c0 c1)
  obtain ⟨O, hO⟩ : ∃ O, O = rdG cs 0 := ⟨_, rfl⟩
  rw [← hO] at HC ⊢
  clear hO
  generalize acV cs 1 0 0 0 0 = AC at HC ⊢
  obtain ⟨QS, hQS⟩ : ∃ Q : Rd, Q = { s with er := O, nd := plainV s.h, d := true } := ⟨_, rfl⟩
  rw [← hQS]
  have HQS := hidOf hQS
  clear hQS
  obtain ⟨n, hn⟩ : ∃ n, n = cs.length := ⟨_, rfl⟩
  obtain ⟨M, hM⟩ : ∃ M, M = rmA c (some ⟨g, 0, none⟩) cs.length cap cnt a := ⟨_, rfl⟩
  have hM15 : M.size = 15 := by rw [hM]; rfl
  have hMv : Wv w g c cs.length cs cnt a M w := ⟨g, cap, hM, Or.inl rfl, hR⟩
  rw [← hM] at HC ⊢
  rw [← hn] at HC hMv ⊢
  obtain ⟨k0, k1, k14, k15, k16, k17, k18⟩ := hRB.cells
  have s19 := hRB.size
  rw [hd] at k18
  rw [hnx] at k1
  obtain ⟨b, hbw⟩ : ∃ b, b = w.heap.size := ⟨_, rfl⟩
  have ST := hidOf (show Sr6 w _ b base g c n s cs cnt a X M (rgA gs) from ⟨Pr6.start w X M (rgA gs) hbw, hRB.new (Pr6.start w X M (rgA gs) hbw).k, hMv.new (Pr6.start w X M (rgA gs) hbw).k⟩)
  clear hR hl hM hn R wd hMv
  go_enter Tryz.func11, Tryz.ntmps11
  go_upto_region 1 with (fail)
  rw [← hbw]
  refine gen_world (fun W => Sr6 w W b base g c n s cs cnt a X M (rgA gs)) ST.out ?_
  have hbb : w.heap.size ≤ b := by omega
  clear ST hbw hRB
  rintro W Q0
  have p18 := cell_of_blk Q0.r.f (i := 18) k18
  have p1 := cell_of_blk Q0.r.f (i := 1) k1
  have p0 := cell_of_blk Q0.r.f (i := 0) k0
  have Q1 := hidOf Q0
  clear Q0
  have QM := Q1.out.r.m
  go_wp2_with (first
    | ((with_reducible change wpList _ _ _ (Oper.mk _ (Op.load 35 (Operand.tmp 4)) _ _ _ _ :: _) _ _); refine wpList_load_rw 35 isT_rm rfl (.tmp 4) rfl (b + 1) rfl M hM15 QM ?_))
  refine (HC.out _ Q1.out.r.k).mono ?_
  rintro e w2 ⟨B, rfl, WV', K2⟩
  clear HC QM
  have WV := WV'.old (w := w) (by have := Q1.out.r.k.size; omega)
  have sB := WV.size
  have oB := WV.allOne
  have V1 := hidOf (And.intro (Q1.out.new K2) WV)
  obtain ⟨d, hdw⟩ : ∃ d, d = w2.heap.size := ⟨_, rfl⟩
  clear Q1 WV WV' p18 p1 p0
  go_upto_region 22 with (first
    | ((with_reducible change wpList _ _ _ (Oper.mk _ (Op.store 35 (Operand.tmp 16) _) _ _ _ _ :: _) _ _); refine wpList_store_rw 35 isT_rm rfl (.tmp 16) (.tmp 83) rfl w2.heap.size B rfl rfl sB oB rmZ (RW.new 35 w2 rmZ) rfl ?_))
  rw [← hdw]
  refine gen_world (fun V => Vr6 w V b d base g c n s cs (cnt + 1) AC X M B (rgA gs)) ?_ ?_
  · have kk := ((Kept.refl [] w2).alloc (.cells rmZ 35)).setRow (b := d) (Or.inr (by omega)) B
    have zz := V1.out.1.r.z.lt
    refine ⟨V1.out.1.r.new kk, V1.out.1.f.new kk, ?_, V1.out.2.new kk, Or.inr (by omega)⟩
    rw [hdw]; exact (RW.new 35 w2 rmZ).row _
  clear V1 hdw K2
  rintro V Q3
  have p17 := cell_of_blk Q3.r.f (i := 17) k17
  have p0 := cell_of_blk Q3.r.f (i := 0) k0
  have pf := free_of_blk Q3.r.f
  have pl := lt_of_blk Q3.r.f
  have HV2 := hidOf (Q3.er O)
  clear Q3
  go_upto_region 23 with (fail)
  refine gen_world (fun V => Vr6 w V b d base g c n { s with er := O } cs (cnt + 1) AC (X.setIfInBounds 17 (.int .u64 O)) M B (rgA gs)) HV2.out ?_
  clear HV2 p17 p0 pf pl
  rintro V4 Q4
  have k0' : (X.setIfInBounds 17 (.int .u64 O))[0]? = some (.int .u64 s.h) := by rw [← k0]; simp
  have k15' : (X.setIfInBounds 17 (.int .u64 O))[15]? = some (.int .u64 s.nd) := by rw [← k15]; simp
  have k18' : (X.setIfInBounds 17 (.int .u64 O))[18]? = some (.bool false) := by rw [← k18]; simp
  generalize X.setIfInBounds 17 (.int .u64 O) = XX at Q4 k0' k15' k18' ⊢
  have p0 := cell_of_blk Q4.r.f (i := 0) k0'
  have HV4 := hidOf Q4
  clear Q4
  go_wp2_with fail
  refine (rplain_any s.h _ hW.1 hW.2).mono ?_
  rintro e w5 ⟨rfl, K5⟩
  have Q5 := HV4.out.new K5
  have p15 := cell_of_blk Q5.r.f (i := 15) k15'
  have p18 := cell_of_blk Q5.r.f (i := 18) k18'
  have pf := free_of_blk Q5.r.f
  have pl := lt_of_blk Q5.r.f
  have HV6 := hidOf ((Q5.nd (plainV s.h)).dn true)
  clear Q5 HV4 K5 p0
  go_upto_region 25 with (fail)
  refine gen_world (fun V => Vr6 w V b d base g c n { s with er := O, nd := plainV s.h, d := true } cs (cnt + 1) AC ((XX.setIfInBounds 15 (.int .u64 (plainV s.h))).setIfInBounds 18 (.bool true)) M B (rgA gs)) HV6.out ?_
  clear HV6 p15 p18 pf pl
  rintro V7 Q7
  generalize (XX.setIfInBounds 15 (.int .u64 (plainV s.h))).setIfInBounds 18 (.bool true) = Y at Q7 ⊢
  go_upto_region 25 with (fail)
  refine wp_ret3 isT_rt isT_rm isT_rg (by kernel_rfl) (by kernel_rfl) (by kernel_rfl) (fun _ _ _ _ _ h => h) b d (b + 1 + 1) (b + 1 + 1 + 1) (b + 1 + 1 + 1 + 1) (b + 1 + 1 + 1 + 1 + 1) Y B (rgA gs) rtZ rmZ rgZ Q7.f.size Q7.v.size rfl Q7.f.one Q7.v.allOne (rg_one _) rfl rfl rfl Q7.r.f Q7.m Q7.r.g Q7.r.x Q7.r.y Q7.r.z (by omega) (by have := Q7.hd; omega) (by omega) (by omega) rfl rfl rfl rfl rfl rfl rfl rfl rfl ?_
  simp only [Act.put, List.setIfInBounds_toArray, List.set_cons_zero, List.set_cons_succ]
  have EE := Q7.ret
  have sx := Q7.f.size
  have sm := Q7.v.size
  go_wp2
  refine bodyPost_ret (v := .tuple #[.agg Y, .agg B, .agg (rgA gs)]) (results_rw3 Tryz.results11 isT_rt isT_rm isT_rg _ _ (b + 1 + 1 + 1) (b + 1 + 1 + 1 + 1) (b + 1 + 1 + 1 + 1 + 1) Y B (rgA gs) sx sm rfl rfl rfl rfl EE.x EE.y EE.z) rfl ⟨_, _, rfl, (by rw [HQS.out]; exact EE.f), EE.v, EE.k⟩
end K
end Go.Proofs.YtgafmklfpiipcaaGreatDoor
namespace Go.Proofs.YtgafmklfpiipcaaGreatDoor
open Go.RowKit (Grown Hid Below)
open Go.Deep
namespace K
set_option maxRecDepth 100000
theorem Vr6.retG {w W : World} {b d base g : Nat} {c : Cfg} {n : Nat} {s : Rd} {cs : List Int} {cnt : Int} {a : Acc} {X M B G : Array Value} (h : Vr6 w W b d base g c n s cs cnt a X M B G) (G2 : Array Value) : Tr6 w (((W.drew.setRow (b + 1 + 1 + 1) X).setRow (b + 1 + 1 + 1 + 1) B).setRow (b + 1 + 1 + 1 + 1 + 1) G2) b base g c n s cs cnt a X B G2 := by
  have kd := (Kept.refl [] W).drew
  have x0 := h.r.x.kept kd (by simp)
  have y0 := h.r.y.kept kd (by simp)
  have z0 := h.r.z.kept kd (by simp)
  have f0 := h.f.new kd
  have v0 := h.v.new kd
  have k0 := h.r.k.trans kd
  have y1 := y0.rowOther X (c := (b + 1 + 1 + 1)) (by omega)
  have z1 := z0.rowOther X (c := (b + 1 + 1 + 1)) (by omega)
  have z2 := z1.rowOther B (c := (b + 1 + 1 + 1 + 1)) (by omega)
  have f1 := f0.far1 x0 (by decide) (k_row _ _ X)
  have v1 := v0.one x0 (by decide) (k_row _ _ X)
  have f2 := f1.far1 y1 (by decide) (k_row _ _ B)
  have v2 := v1.one y1 (by decide) (k_row _ _ B)
  have o := h.r.old
  exact ⟨((x0.row X).rowOther B (by omega)).rowOther G2 (by omega), (y1.row B).rowOther G2 (by omega), z2.row G2, f2.far1 z2 (by decide) (k_row _ _ G2), v2.one z2 (by decide) (k_row _ _ G2), ((k0.setRow (Or.inr (by omega)) X).setRow (Or.inr (by omega)) B).setRow (Or.inr (by omega)) G2⟩
set_option maxHeartbeats 8000000 in
theorem rts1_any {base g : Nat} {c : Cfg} {s : Rd} {X : Array Value} {gs : Gs} {cs : List Int} {cap : Nat} {cnt : Int} {w : World} (a : Acc) (S : SR base w g c s X gs cs cap cnt) (hd : s.d = false) (hnx : s.nx = 1) :
    Calls Tryz.prog 11 #[.agg X, .agg (rmA c (some ⟨g, 0, none⟩) cs.length cap cnt a), .agg (rgA gs)] w fun e w' => ∃ Y B, e = .returned (.tuple #[.agg Y, .agg B, .agg (rgA (fG c gs s.f))]) ∧ RT base w' { s with f := fF c cs cnt gs s.f, nx := if (fF c cs cnt gs s.f).d = true then 2 else s.nx } Y ∧ Wv w g c cs.length (fC c cs gs s.f) (cnt + 1) (fA c cs gs s.f a) B w' ∧ Kept [] w w' := by
  obtain ⟨hRB, hW, hR, hl, c0, c1, R, ri, wd, hb, u0, u1⟩ := S
  have HR1 := hidOf R
  have hdF : s.f.d = false := ri.f0 hd (by show s.nx ≤ 1; omega)
  have HC := hidOf (fun (W : World) (A : Array Value) (k : Kept [] w W) (hf : RF base W s.f A) => rfstep_any a (⟨hf, hR.kept k (by simp), hl, c0, c1, R, ri.fi, wd, by have := k.size; omega, u0, u1⟩ : SQ base W g c s.f A gs cs cap cnt))
  rw [fN_no hdF] at HC
  generalize fF c cs cnt gs s.f = F at HC ⊢
  generalize fC c cs gs s.f = CS at HC ⊢
  generalize fA c cs gs s.f a = AC at HC ⊢
  obtain ⟨G, hG⟩ : ∃ G, G = rgA (fG c gs s.f) := ⟨_, rfl⟩
  rw [← hG] at HC ⊢
  have HG := hidOf hG
  clear hG
  obtain ⟨QS, hQS⟩ : ∃ Q : Rd, Q = { s with f := F, nx := if F.d = true then 2 else s.nx } := ⟨_, rfl⟩
  rw [← hQS]
  have HQS := hidOf hQS
  clear hQS
  obtain ⟨n, hn⟩ : ∃ n, n = cs.length := ⟨_, rfl⟩
  obtain ⟨M, hM⟩ : ∃ M, M = rmA c (some ⟨g, 0, none⟩) cs.length cap cnt a := ⟨_, rfl⟩
  have hM15 : M.size = 15 := by rw [hM]; rfl
  have hMv : Wv w g c cs.length cs cnt a M w := ⟨g, cap, hM, Or.inl rfl, hR⟩
  rw [← hM] at HC ⊢
  rw [← hn] at HC hMv ⊢
  obtain ⟨k0, k1, k14, k15, k16, k17, k18⟩ := hRB.cells
  have s19 := hRB.size
  rw [hd] at k18
  rw [hnx] at k1
  obtain ⟨b, hbw⟩ : ∃ b, b = w.heap.size := ⟨_, rfl⟩
  have ST := hidOf (show Sr6 w _ b base g c n s cs cnt a X M (rgA gs) from ⟨Pr6.start w X M (rgA gs) hbw, hRB.new (Pr6.start w X M (rgA gs) hbw).k, hMv.new (Pr6.start w X M (rgA gs) hbw).k⟩)
  clear hR hl hM hn R wd hMv
  go_enter Tryz.func11, Tryz.ntmps11
  go_upto_region 1 with (fail)
  rw [← hbw]
  refine gen_world (fun W => Sr6 w W b base g c n s cs cnt a X M (rgA gs)) ST.out ?_
  have hbb : w.heap.size ≤ b := by omega
  clear ST hbw hRB
  rintro W Q0
  have p18 := cell_of_blk Q0.r.f (i := 18) k18
  have p1 := cell_of_blk Q0.r.f (i := 1) k1
  have p0 := cell_of_blk Q0.r.f (i := 0) k0
  have Q1 := hidOf Q0
  clear Q0
  obtain ⟨A, hRF, lenA, MD⟩ := Q1.out.f.mid
  have MF := (MD W b 48 Q1.out.r.f).1
  obtain ⟨fs, u44⟩ := isT_rf.2
  have i44 : (Tryz.prog.info? 44).map (·.size) = some A.toList.length := by rw [isT_rf.1, lenA]
  have HCA := hidOf (HC.out W A Q1.out.r.k hRF)
  have QM := Q1.out.r.m
  have QG := Q1.out.r.g
  clear HC MD
  go_wp2_with (first
    | ((with_reducible change wpList _ _ _ (Oper.mk _ (Op.load 44 (Operand.tmp 48)) _ _ _ _ :: _) _ _); refine wpList_load_mid rfl 44 (.tmp 48) rfl b 2 rfl A.toList _ MF u44 rfl i44 ?_)
    | ((with_reducible change wpList _ _ _ (Oper.mk _ (Op.load 35 (Operand.tmp 4)) _ _ _ _ :: _) _ _); refine wpList_load_rw 35 isT_rm rfl (.tmp 4) rfl (b + 1) rfl M hM15 QM ?_)
    | ((with_reducible change wpList _ _ _ (Oper.mk _ (Op.load 51 (Operand.tmp 5)) _ _ _ _ :: _) _ _); refine wpList_load_rw 51 isT_rg rfl (.tmp 5) rfl (b + 1 + 1) rfl (rgA gs) rfl QG ?_))
  refine HCA.out.mono ?_
  rintro e w2 ⟨XF, B, rfl, RX, WV', K2⟩
  have WV := WV'.old (w := w) Q1.out.r.k.size
  have sB := WV.size
  have oB := WV.allOne
  have sX := RX.size
  have oX := RX.one
  have sG : G.size = 3 := by rw [HG.out]; rfl
  have oG : G.all (·.oneCell') = true := by rw [HG.out]; exact rg_one _
  have V1 := hidOf (And.intro (Q1.out.new K2) (And.intro WV RX))
  have T3 := three_new 44 35 51 w2 rfZ rmZ rgZ rfl
  have t1 := T3.1
  have t2 := T3.2.1.rowOther XF (c := w2.heap.size) (by omega)
  have t3 := (T3.2.2.1.rowOther XF (c := w2.heap.size) (by omega)).rowOther B (c := w2.heap.size + 1) (by omega)
  have HK3 := hidOf T3.2.2.2
  have HT3 := hidOf (And.intro t1 (And.intro t2 t3))
  obtain ⟨d, hdw⟩ : ∃ d, d = w2.heap.size := ⟨_, rfl⟩
  clear Q1 WV WV' RX MF u44 i44 lenA hRF HCA QM QG p18 p1 p0 T3 K2
  go_upto_region 12 with (first
    | ((with_reducible change wpList _ _ _ (Oper.mk _ (Op.store 44 (Operand.tmp 11) _) _ _ _ _ :: _) _ _); refine wpList_store_rw 44 isT_rf rfl (.tmp 11) (.tmp 53) rfl w2.heap.size XF rfl rfl sX oX rfZ t1 rfl ?_)
    | ((with_reducible change wpList _ _ _ (Oper.mk _ (Op.store 35 (Operand.tmp 12) _) _ _ _ _ :: _) _ _); refine wpList_store_rw 35 isT_rm rfl (.tmp 12) (.tmp 54) rfl (w2.heap.size + 1) B rfl rfl sB oB rmZ t2 rfl ?_)
    | ((with_reducible change wpList _ _ _ (Oper.mk _ (Op.store 51 (Operand.tmp 13) _) _ _ _ _ :: _) _ _); refine wpList_store_rw 51 isT_rg rfl (.tmp 13) (.tmp 55) rfl (w2.heap.size + 1 + 1) G rfl rfl sG oG rgZ t3 rfl ?_))
  rw [← hdw]
  refine gen_world (fun V => Vr6 w V b (d + 1) base g c n s CS (cnt + 1) AC X M B (rgA gs) ∧ RW 44 V d XF ∧ RW 51 V (d + 1 + 1) G ∧ RF base V F XF) ?_ ?_
  · have kk := ((HK3.out.setRow (b := d) (Or.inr (by omega)) XF).setRow (b := d + 1) (Or.inr (by omega)) B).setRow (b := d + 1 + 1) (Or.inr (by omega)) G
    have zz := V1.out.1.r.z.lt
    have t := HT3.out
    rw [← hdw] at t
    exact ⟨⟨V1.out.1.r.new kk, V1.out.1.f.new kk, (t.2.1.row B).rowOther G (by omega), V1.out.2.1.new kk, Or.inr (by omega)⟩, (((t.1.row XF).rowOther B (by omega)).rowOther G (by omega)), t.2.2.row G, V1.out.2.2.new kk⟩
  have hdb : b + 1 + 1 + 1 + 1 + 1 < d := by have := V1.out.1.r.z.lt; omega
  clear V1 hdw HK3 HT3 t1 t2 t3
  rintro V Q3
  have DF := Q3.2.1
  obtain ⟨A3, -, len3, MD3⟩ := Q3.1.f.mid
  have TH : V.there b 2 XF.size := by rw [sX]; exact (MD3 V b 48 Q3.1.r.f).2
  obtain ⟨fs, u44⟩ := isT_rf.2
  have i44 : (Tryz.prog.info? 44).map (·.size) = some XF.size := by rw [isT_rf.1, sX]
  have HV := hidOf Q3
  clear Q3 MD3 len3
  go_upto_region 13 with (first
    | ((with_reducible change wpList _ _ _ (Oper.mk _ (Op.load 44 (Operand.tmp 11)) _ _ _ _ :: _) _ _); refine wpList_load_rw 44 isT_rf rfl (.tmp 11) rfl d rfl XF sX DF ?_)
    | ((with_reducible change wpList _ _ _ (Oper.mk _ (Op.store 44 (Operand.tmp 57) _) _ _ _ _ :: _) _ _); refine wpList_store_mid rfl 44 (.tmp 57) (.tmp 56) rfl b 2 XF rfl rfl TH i44 oX ?_))
  refine gen_world (fun Y => Vr6 w Y b (d + 1) base g c n { s with f := F } CS (cnt + 1) AC (setFrom X 2 XF.toList) M B (rgA gs) ∧ RW 44 Y d XF ∧ RW 51 Y (d + 1 + 1) G) ?_ ?_
  · have k := kept_cells b XF.toList 2 (Kept.refl [b] V)
    exact ⟨HV.out.1.cells HV.out.2.2.2, HV.out.2.1.kept k (nin1 (by omega)), HV.out.2.2.1.kept k (nin1 (by omega))⟩
  have e11 := HV.out.2.2.2.cells.2.2.2.2.2.2.2.2
  clear HV DF TH
  rintro V4 Q4
  generalize setFrom X 2 XF.toList = X4 at Q4 ⊢
  have q11 := cell_of_blk Q4.2.1 (i := 11) e11
  obtain ⟨D, hD⟩ : ∃ D, D = F.d := ⟨_, rfl⟩
  rw [← hD] at q11 HQS
  have HV4 := hidOf Q4
  have HD := hidOf hD
  clear Q4 hD e11
  cases D with
  | false =>
    have Q7 := HV4.out.1
    have gF := HV4.out.2.2
    clear HV4
    go_upto_region 15 with (fail)
    refine wp_ret3 isT_rt isT_rm isT_rg (by kernel_rfl) (by kernel_rfl) (by kernel_rfl) (fun _ _ _ _ _ h => h) b (d + 1) (d + 1 + 1) (b + 1 + 1 + 1) (b + 1 + 1 + 1 + 1) (b + 1 + 1 + 1 + 1 + 1) X4 B G rtZ rmZ rgZ Q7.f.size Q7.v.size (by rw [HG.out]; rfl) Q7.f.one Q7.v.allOne (by rw [HG.out]; exact rg_one _) rfl rfl rfl Q7.r.f Q7.m gF Q7.r.x Q7.r.y Q7.r.z (by omega) (by have := Q7.hd; omega) (by omega) (by omega) rfl rfl rfl rfl rfl rfl rfl rfl rfl ?_
    simp only [Act.put, List.setIfInBounds_toArray, List.set_cons_zero, List.set_cons_succ]
    have EE := Q7.retG G
    have sx := Q7.f.size
    have sm := Q7.v.size
    go_wp2
    refine bodyPost_ret (v := .tuple #[.agg X4, .agg B, .agg G]) (results_rw3 Tryz.results11 isT_rt isT_rm isT_rg _ _ (b + 1 + 1 + 1) (b + 1 + 1 + 1 + 1) (b + 1 + 1 + 1 + 1 + 1) X4 B G sx sm (by rw [HG.out]; rfl) rfl rfl rfl EE.x EE.y EE.z) rfl ⟨_, _, rfl, (by rw [HQS.out, if_neg (by decide)]; exact EE.f), EE.v, EE.k⟩
  | true =>
    have k1' := HV4.out.1.f.cells.2.1
    have p1 := cell_of_blk HV4.out.1.r.f (i := 1) k1'
    have pf := free_of_blk HV4.out.1.r.f
    have pl := lt_of_blk HV4.out.1.r.f
    have HV5 : Hid (Vr6 w (V4.setCell ⟨b, 1, none⟩ (.int .i64 ((2 : Nat) : Int))) b (d + 1) base g c n { s with f := F, nx := 2 } CS (cnt + 1) AC (X4.setIfInBounds 1 (.int .i64 ((2 : Nat) : Int))) M B (rgA gs) ∧ RW 51 (V4.setCell ⟨b, 1, none⟩ (.int .i64 ((2 : Nat) : Int))) (d + 1 + 1) G) := hidOf ⟨HV4.out.1.nx 2, HV4.out.2.2.kept (k_cell V4 b 1 _) (nin1 (by omega))⟩
    clear HV4 k1'
    go_upto_region 15 with (fail)
    refine gen_world (fun V => Vr6 w V b (d + 1) base g c n { s with f := F, nx := 2 } CS (cnt + 1) AC (X4.setIfInBounds 1 (.int .i64 ((2 : Nat) : Int))) M B (rgA gs) ∧ RW 51 V (d + 1 + 1) G) HV5.out ?_
    clear HV5 p1 pf pl q11
    rintro V7 Q8
    have Q7 := Q8.1
    have gF := Q8.2
    clear Q8
    generalize X4.setIfInBounds 1 (.int .i64 ((2 : Nat) : Int)) = Y at Q7 ⊢
    go_upto_region 15 with (fail)
    refine wp_ret3 isT_rt isT_rm isT_rg (by kernel_rfl) (by kernel_rfl) (by kernel_rfl) (fun _ _ _ _ _ h => h) b (d + 1) (d + 1 + 1) (b + 1 + 1 + 1) (b + 1 + 1 + 1 + 1) (b + 1 + 1 + 1 + 1 + 1) Y B G rtZ rmZ rgZ Q7.f.size Q7.v.size (by rw [HG.out]; rfl) Q7.f.one Q7.v.allOne (by rw [HG.out]; exact rg_one _) rfl rfl rfl Q7.r.f Q7.m gF Q7.r.x Q7.r.y Q7.r.z (by omega) (by have := Q7.hd; omega) (by omega) (by omega) rfl rfl rfl rfl rfl rfl rfl rfl rfl ?_
    simp only [Act.put, List.setIfInBounds_toArray, List.set_cons_zero, List.set_cons_succ]
    have EE := Q7.retG G
    have sx := Q7.f.size
    have sm := Q7.v.size
    go_wp2
    refine bodyPost_ret (v := .tuple #[.agg Y, .agg B, .agg G]) (results_rw3 Tryz.results11 isT_rt isT_rm isT_rg _ _ (b + 1 + 1 + 1) (b + 1 + 1 + 1 + 1) (b + 1 + 1 + 1 + 1 + 1) Y B G sx sm (by rw [HG.out]; rfl) rfl rfl rfl EE.x EE.y EE.z) rfl ⟨_, _, rfl, (by rw [HQS.out]; (first | rw [if_pos rfl] | rw [if_pos trivial]); exact EE.f), EE.v, EE.k⟩
end K
end Go.Proofs.YtgafmklfpiipcaaGreatDoor
namespace Go.Proofs.YtgafmklfpiipcaaGreatDoor
open Go.RowKit (Grown Hid Below)
open Go.Deep
namespace K
set_option maxRecDepth 100000
/-- The document's retire behind a step. -/
def rdF (c : Cfg) (cs : List Int) (cnt : Int) (g : Gs) (s : Rd) : Rd :=
  if s.d = true then s else
  match s.nx with
  | 0 => { s with la := decide (fd c cs (ixV s.h) 5 = 1), d := !decide (fd c cs (ixV s.h) 5 = 1), nx := 1 }
  | 1 => { s with f := fF c cs cnt g s.f, nx := if (fF c cs cnt g s.f).d = true then 2 else s.nx }
  | 2 => { s with bi := fd c cs (ixV s.h) 3, nx := 3 }
  | _ => { s with er := rdG cs 0, nd := plainV s.h, d := true }
theorem rdF_h (c : Cfg) (cs : List Int) (cnt : Int) (g : Gs) (s : Rd) : (rdF c cs cnt g s).h = s.h := by
  unfold rdF; split
  · rfl
  · split <;> rfl
/-- What the document's entry tells is the program's. -/
def Rd.ok (s : Rd) : Prop := s.d = true → s.la = true → s.nd = plainV s.h
theorem Rd.ok_step {s : Rd} (h : s.ok) (c : Cfg) (cs : List Int) (cnt : Int) (g : Gs) : (rdF c cs cnt g s).ok := by
  unfold rdF
  split
  · exact h
  · rename_i hd
    have hd' : s.d = false := by simpa using hd
    split
    · intro h1 h2
      have h2' : decide (fd c cs (ixV s.h) 5 = 1) = true := h2
      have h1' : (!decide (fd c cs (ixV s.h) 5 = 1)) = true := h1
      rw [h2'] at h1'; cases h1'
    · intro h1 _
      have h1' : s.d = true := h1
      rw [hd'] at h1'; cases h1'
    · intro h1 _
      have h1' : s.d = true := h1
      rw [hd'] at h1'; cases h1'
    · intro _ _; rfl
theorem rdF_m (c : Cfg) (cs : List Int) (cnt : Int) (g : Gs) (s : Rd) : (rdF c cs cnt g s).m = rtF c cs cnt g s.m := by
  have ix : ixV s.m.h = ixV s.h := ix_pl s.h
  cases hd : s.d with
  | true =>
    rw [(rtF_done (c := c) (cs := cs) (cnt := cnt) (g := g) (s := s.m) hd).1]
    unfold rdF; rw [if_pos hd]
  | false =>
    have hn : ¬ s.d = true := by rw [hd]; decide
    unfold rdF rtF
    rw [if_neg hn, if_neg (show ¬ s.m.d = true from hn)]
    obtain ⟨h, nx, f, la, nd, bi, er, d⟩ := s
    rcases nx with _ | _ | _ | nx
    · show _ = ({ h := _, nx := _, f := _, la := _, bi := _, er := _, d := _ } : Rtm)
      simp only [Rd.m, Rtm.ow, ix_pl]
    · show _ = ({ h := _, nx := _, f := _, la := _, bi := _, er := _, d := _ } : Rtm)
      rfl
    · show _ = ({ h := _, nx := _, f := _, la := _, bi := _, er := _, d := _ } : Rtm)
      simp only [Rd.m, ix_pl]
    · rfl
/-- Any step of the document's retire. -/
theorem rtdstep_any {base g : Nat} {c : Cfg} {s : Rd} {X : Array Value} {gs : Gs} {cs : List Int} {cap : Nat} {cnt : Int} {w : World} (a : Acc) (S : SR base w g c s X gs cs cap cnt) :
    Calls Tryz.prog 11 #[.agg X, .agg (rmA c (some ⟨g, 0, none⟩) cs.length cap cnt a), .agg (rgA gs)] w fun e w' => ∃ Y B, e = .returned (.tuple #[.agg Y, .agg B, .agg (rgA (rtG c gs s.m))]) ∧ RT base w' (rdF c cs cnt gs s) Y ∧ Wv w g c cs.length (rtC c cs gs s.m) (rtN cnt s.m) (rtA c cs gs s.m a) B w' ∧ Kept [] w w' := by
  have ix : ixV s.m.h = ixV s.h := ix_pl s.h
  have pl : plainV s.m.h = plainV s.h := pl_pl s.h
  cases hd : s.d with
  | true =>
    obtain ⟨_, e2, e3, e4⟩ := rtF_done (c := c) (cs := cs) (cnt := cnt) (g := gs) (s := s.m) hd
    rw [e2, e3, e4, show rtA c cs gs s.m a = a from if_pos hd, show rdF c cs cnt gs s = s from if_pos hd]
    exact rtsd_any a S hd
  | false =>
    have hn : ¬ s.d = true := by rw [hd]; decide
    rw [show rtN cnt s.m = cnt + 1 from if_neg hn]
    rcases (by have z : s.nx ≤ 3 := S.ri.nx; omega : s.nx = 0 ∨ s.nx = 1 ∨ s.nx = 2 ∨ s.nx = 3) with e | e | e | e
    · obtain ⟨_, e2, e3⟩ := rtF_0 (c := c) (cs := cs) (cnt := cnt) (g := gs) (s := s.m) hd e
      rw [e2, e3, show rtA c cs gs s.m a = acV cs 4 (clV' c (ixV s.m.h) 5) (plainV s.m.h) 0 oneL by unfold rtA; rw [if_neg (show ¬ s.m.d = true from hn), show s.m.nx = 0 from e]; rfl, ix, pl, show rdF c cs cnt gs s = { s with la := decide (fd c cs (ixV s.h) 5 = 1), d := !decide (fd c cs (ixV s.h) 5 = 1), nx := 1 } by unfold rdF; rw [if_neg hn, e]; rfl]
      exact rts0_any a S hd e
    · obtain ⟨_, e2, e3⟩ := rtF_1 (c := c) (cs := cs) (cnt := cnt) (g := gs) (s := s.m) hd e
      rw [e2, e3, show rtA c cs gs s.m a = fA c cs gs s.f a by unfold rtA; rw [if_neg (show ¬ s.m.d = true from hn), show s.m.nx = 1 from e]; rfl, show rdF c cs cnt gs s = { s with f := fF c cs cnt gs s.f, nx := if (fF c cs cnt gs s.f).d = true then 2 else s.nx } by unfold rdF; rw [if_neg hn]; split <;> first | rfl | (exfalso; omega) | (exfalso; exact (by assumption : s.nx = 1 → False) e)]
      exact rts1_any a S hd e
    · obtain ⟨_, e2, e3⟩ := rtF_2 (c := c) (cs := cs) (cnt := cnt) (g := gs) (s := s.m) hd e
      rw [e2, e3, show rtA c cs gs s.m a = acV cs 1 (clV' c (ixV s.m.h) 3) (plainV s.m.h) 0 0 by unfold rtA; rw [if_neg (show ¬ s.m.d = true from hn), show s.m.nx = 2 from e]; rfl, ix, pl, show rdF c cs cnt gs s = { s with bi := fd c cs (ixV s.h) 3, nx := 3 } by unfold rdF; rw [if_neg hn, e]; rfl]
      exact rts2_any a S hd e
    · obtain ⟨_, e2, e3⟩ := rtF_3 (c := c) (cs := cs) (cnt := cnt) (g := gs) (s := s.m) hd e
      rw [e2, e3, show rtA c cs gs s.m a = acV cs 1 0 0 0 0 by unfold rtA; rw [if_neg (show ¬ s.m.d = true from hn), show s.m.nx = 3 from e]; rfl, show rdF c cs cnt gs s = { s with er := rdG cs 0, nd := plainV s.h, d := true } by unfold rdF; rw [if_neg hn, e]; rfl]
      exact rts3_any a S hd e
end K
end Go.Proofs.YtgafmklfpiipcaaGreatDoor
namespace Go.Proofs.YtgafmklfpiipcaaGreatDoor
open Go.RowKit (Grown Hid Below)
open Go.Deep
namespace K
set_option maxRecDepth 100000
/-- The entry that the document tells. -/
def Rd.ent (s : Rd) : Value := if s.d = true ∧ s.la = true then entV s.nd s.bi s.er else entV 0 0 0
theorem Rd.ent_m {s : Rd} (h : s.ok) : s.ent = s.m.ent := by
  unfold Rd.ent Rtm.ent
  by_cases q : s.d = true ∧ s.la = true
  · rw [if_pos q, if_pos (show s.m.d = true ∧ s.m.la = true from q), h q.1 q.2]; rfl
  · rw [if_neg q, if_neg (show ¬ (s.m.d = true ∧ s.m.la = true) from q)]
set_option maxHeartbeats 4000000 in
theorem rdentry_any {base : Nat} {s : Rd} {X : Array Value} {w : World} (hX : RT base w s X) :
    Calls Tryz.prog 13 #[.agg X] w fun e w' => e = .returned (.tuple #[s.ent, .bool s.m.told]) ∧ Kept [] w w' := by
  obtain ⟨D, hD⟩ : ∃ D, s.d = D := ⟨_, rfl⟩
  obtain ⟨L, hL⟩ : ∃ L, s.la = L := ⟨_, rfl⟩
  have e1 : s.ent = if D = true ∧ L = true then entV s.nd s.bi s.er else entV 0 0 0 := by unfold Rd.ent; rw [hD, hL]
  have e2 : s.m.told = (D && L) := by show (s.d && s.la) = _; rw [hD, hL]
  rw [e1, e2]
  obtain ⟨-, -, k14, k15, k16, k17, k18⟩ := hX.cells
  have sX := hX.size
  rw [hD] at k18
  rw [hL] at k14
  obtain ⟨EV, hEV⟩ : ∃ EV, EV = if D = true ∧ L = true then entV s.nd s.bi s.er else entV 0 0 0 := ⟨_, rfl⟩
  obtain ⟨TD, hTD⟩ : ∃ TD, TD = (D && L) := ⟨_, rfl⟩
  rw [← hEV, ← hTD]
  clear e1 e2 hD hL hX
  generalize s.nd = H at *
  generalize s.bi = B at *
  generalize s.er = E at *
  obtain ⟨q, hq⟩ : ∃ q, q = w.heap.size := ⟨_, rfl⟩
  have HEV := hidOf (And.intro hEV hTD)
  have BX := hidOf (two_new 48 46 w X #[.int .u64 0, .int .u64 0, .int .u64 0] hq)
  clear hEV hTD
  go_enter Tryz.func13, Tryz.ntmps13
  go_upto_region 1 with (fail)
  rw [← hq]
  refine gen_world (fun W => RW 48 W q X ∧ RW 46 W (q + 1) #[.int .u64 0, .int .u64 0, .int .u64 0] ∧ Kept [] w W) BX.out ?_
  have hqw : w.heap.size ≤ q := by omega
  clear BX hq
  rintro W ⟨Z, Q, K0⟩
  have z14 := cell_of_blk Z (i := 14) k14
  have z15 := cell_of_blk Z (i := 15) k15
  have z16 := cell_of_blk Z (i := 16) k16
  have z17 := cell_of_blk Z (i := 17) k17
  have z18 := cell_of_blk Z (i := 18) k18
  have x0 := cell_of_blk Q (i := 0) rfl
  have x1 := cell_of_blk Q (i := 1) rfl
  have x2 := cell_of_blk Q (i := 2) rfl
  have xf := free_of_blk Q
  have xl := lt_of_blk Q
  have HK := hidOf (And.intro K0 hqw)
  clear Q Z K0
  have FIN : Hid (∀ Y : World, Y = W → Kept [] w (((Y.setCell ⟨q + 1, 0, none⟩ (.int .u64 0)).setCell ⟨q + 1, 1, none⟩ (.int .u64 0)).setCell ⟨q + 1, 2, none⟩ (.int .u64 0)) ∧ Kept [] w (((Y.setCell ⟨q + 1, 0, none⟩ (.int .u64 H)).setCell ⟨q + 1, 1, none⟩ (.int .u64 B)).setCell ⟨q + 1, 2, none⟩ (.int .u64 E))) := hidOf (fun Y e => by
    subst e
    obtain ⟨K0, hq⟩ := HK.out
    have hq1 : w.heap.size ≤ q + 1 := by omega
    exact ⟨((K0.setCell (p := ⟨q + 1, 0, none⟩) (Or.inr hq1) _).setCell (p := ⟨q + 1, 1, none⟩) (Or.inr hq1) _).setCell (p := ⟨q + 1, 2, none⟩) (Or.inr hq1) _, ((K0.setCell (p := ⟨q + 1, 0, none⟩) (Or.inr hq1) _).setCell (p := ⟨q + 1, 1, none⟩) (Or.inr hq1) _).setCell (p := ⟨q + 1, 2, none⟩) (Or.inr hq1) _⟩)
  cases D with
  | false =>
    go_wp2
    refine bodyPost_ret (v := .tuple #[entV 0 0 0, .bool false]) (by simp [results, Tryz.results13, go_sem, entV, x0, x1, x2]) rfl ⟨by rw [HEV.out.1, HEV.out.2]; simp, ?_⟩
    first | exact (FIN.out _ rfl).1 | exact HK.out.1
  | true =>
    cases L with
    | false =>
      go_wp2
      refine bodyPost_ret (v := .tuple #[entV 0 0 0, .bool false]) (by simp [results, Tryz.results13, go_sem, entV, x0, x1, x2]) rfl ⟨by rw [HEV.out.1, HEV.out.2]; simp, ?_⟩
      first | exact (FIN.out _ rfl).1 | exact HK.out.1
    | true =>
      go_wp2
      refine bodyPost_ret (v := .tuple #[entV H B E, .bool true]) (by simp [results, Tryz.results13, go_sem, entV, x0, x1, x2]) rfl ⟨by rw [HEV.out.1, HEV.out.2]; simp, ?_⟩
      exact (FIN.out _ rfl).2
end K
end Go.Proofs.YtgafmklfpiipcaaGreatDoor
namespace Go.Proofs.YtgafmklfpiipcaaGreatDoor
open Go.RowKit (Grown Hid Below)
open Go.Deep
namespace K
set_option maxRecDepth 100000
def pkA (p : Pk) : Array Value := #[.int .i64 p.s, .int .i64 p.c, .int .u64 p.v]
theorem isT_pk : IsT 91 3 := ⟨by kernel_rfl, _, Tryz.underlying91⟩
set_option maxHeartbeats 2000000 in
theorem pokedRef_any (st ce v : Int) (c : Cfg) (g : Nat) (cs : List Int) (cap : Nat) (cnt : Int) (a : Acc) (w : World) (hR : RowR w g cs cap) (hl : cs.length ≤ 17592186044415) (c0 : 0 ≤ cnt) (c1 : cnt < 4611686018427387904) :
    Calls Tryz.prog 32 #[.agg (rmA c (some ⟨g, 0, none⟩) cs.length cap cnt a), .agg (pkA ⟨st, ce, v⟩)] w fun e w' =>
      ∃ g' c', e = .returned (.agg (rmA c (some ⟨g', 0, none⟩) cs.length c' (cnt + 1) (acV cs 2 ce 0 0 v))) ∧ (g' = g ∨ w.heap.size ≤ g') ∧ RowR w' g' (clV cs 2 ce 0 v) c' ∧ Kept [] w w' := by
  have hgl := hR.lt
  have HL := hidOf (fun W (k : Kept [] w W) => rstore_any g cs cap cnt a ce 0 v W (hR.kept k (by simp)) hl c0 c1)
  clear hR hl
  generalize acV cs 2 ce 0 0 v = AC at *
  generalize clV cs 2 ce 0 v = CC at *
  generalize cs.length = n at *
  obtain ⟨b, hb⟩ : ∃ b, b = w.heap.size := ⟨_, rfl⟩
  have ST := hidOf (three_new 35 91 35 w (rmA c (some ⟨g, 0, none⟩) n cap cnt a) (pkA ⟨st, ce, v⟩) rmZ hb)
  go_enter Tryz.func32, Tryz.ntmps32
  go_upto_region 1 with (fail)
  rw [← hb]
  refine gen_world (fun W => RW 35 W b (rmA c (some ⟨g, 0, none⟩) n cap cnt a) ∧ RW 91 W (b + 1) (pkA ⟨st, ce, v⟩) ∧ RW 35 W (b + 1 + 1) rmZ ∧ Kept [] w W) ST.out ?_
  have hbw : w.heap.size ≤ b := by omega
  clear ST hb
  rintro W ⟨B0, P0, C0, hk⟩
  refine wp_region_held_drew (S := fun w' => RW 35 w' b (rmA c (some ⟨g, 0, none⟩) n cap cnt a) ∧ RW 91 w' (b + 1) (pkA ⟨st, ce, v⟩) ∧ ∃ O, RW 35 w' (b + 1 + 1) O) (by kernel_rfl) ⟨B0, P0, _, C0⟩ (fun hS => ?_)
  have hk' : Kept [] w W.drew := hk.drew
  have B0' : RW 35 W.drew b (rmA c (some ⟨g, 0, none⟩) n cap cnt a) := B0
  have C0' : RW 35 W.drew (b + 1 + 1) rmZ := C0
  have P0' : RW 91 W.drew (b + 1) (pkA ⟨st, ce, v⟩) := P0
  clear hk B0 C0 P0
  generalize W.drew = W at hk' B0' C0' P0' hS ⊢
  have hk := hk'
  have B0 := B0'
  have C0 := C0'
  have P0 := P0'
  clear hk' B0' C0' P0'
  refine wpAnyH_take (i := 0) (oi := { dst := some 5, op := Op.fieldAddr 35 (Operand.tmp 2) 0, type := 0, pos := "law.go:46", after := #[], guard := none }) (v := Value.pointer (some ⟨b, 0, none⟩)) rfl (by kernel_rfl) (by kernel_rfl) (by kernel_rfl) (fun _ _ _ h => h) (Or.inl ⟨rfl, fun _ _ => by kernel_rfl⟩) hS ?_
  try simp only [Act.put, List.setIfInBounds_toArray, List.set_cons_zero, List.set_cons_succ]
  refine wpAnyH_take (i := 1) (oi := { dst := some 6, op := Op.load 23 (Operand.tmp 5), type := 23, pos := "law.go:46", after := #[{ on := 0, ground := Ground.data }], guard := none }) (v := Value.agg #[.int .i64 c.t, .int .i64 c.s, .int .i64 c.c, .int .i64 c.h, .int .i64 c.k, .int .i64 c.e, .int .i64 c.l]) rfl (by kernel_rfl) (by kernel_rfl) (by kernel_rfl) (fun _ _ _ h => h) (yieldsIf_load_mid (P := Tryz.prog) rfl 23 (.tmp 5) rfl b 0 rfl [.int .i64 c.t, .int .i64 c.s, .int .i64 c.c, .int .i64 c.h, .int .i64 c.k, .int .i64 c.e, .int .i64 c.l] _ (fun _ h => range_rm0 h.1) Tryz.underlying23 rfl (by kernel_rfl)) hS ?_
  try simp only [Act.put, List.setIfInBounds_toArray, List.set_cons_zero, List.set_cons_succ]
  refine wpAnyH_take (i := 2) (oi := { dst := some 7, op := Op.fieldAddr 35 (Operand.tmp 2) 1, type := 0, pos := "law.go:46", after := #[], guard := none }) (v := Value.pointer (some ⟨b, 7, none⟩)) rfl (by kernel_rfl) (by kernel_rfl) (by kernel_rfl) (fun _ _ _ h => h) (Or.inl ⟨rfl, fun _ _ => by kernel_rfl⟩) hS ?_
  try simp only [Act.put, List.setIfInBounds_toArray, List.set_cons_zero, List.set_cons_succ]
  refine wpAnyH_take (i := 3) (oi := { dst := some 8, op := Op.load 33 (Operand.tmp 7), type := 33, pos := "law.go:46", after := #[{ on := 2, ground := Ground.data }], guard := none }) (v := Value.agg #[.slice (some ⟨g, 0, none⟩) n cap, .int .i64 cnt, .int .i64 a.k, .int .i64 a.c, .int .u64 a.v, .int .u64 a.o, .int .u64 a.n, .bool a.d]) rfl (by kernel_rfl) (by kernel_rfl) (by kernel_rfl) (fun _ _ _ h => h) (yieldsIf_load_mid (P := Tryz.prog) rfl 33 (.tmp 7) rfl b 7 rfl [.slice (some ⟨g, 0, none⟩) n cap, .int .i64 cnt, .int .i64 a.k, .int .i64 a.c, .int .u64 a.v, .int .u64 a.o, .int .u64 a.n, .bool a.d] _ (fun _ h => range_rm7 h.1) Tryz.underlying33 rfl (by kernel_rfl)) hS ?_
  try simp only [Act.put, List.setIfInBounds_toArray, List.set_cons_zero, List.set_cons_succ]
  refine wpAnyH_take (i := 4) (oi := { dst := some 9, op := Op.fieldAddr 91 (Operand.tmp 3) 1, type := 0, pos := "law.go:46", after := #[], guard := none }) (v := Value.pointer (some ⟨b + 1, 1, none⟩)) rfl (by kernel_rfl) (by kernel_rfl) (by kernel_rfl) (fun _ _ _ h => h) (Or.inl ⟨rfl, fun _ _ => by kernel_rfl⟩) hS ?_
  try simp only [Act.put, List.setIfInBounds_toArray, List.set_cons_zero, List.set_cons_succ]
  refine wpAnyH_take (i := 5) (oi := { dst := some 10, op := Op.load 3 (Operand.tmp 9), type := 3, pos := "law.go:46", after := #[{ on := 4, ground := Ground.data }], guard := none }) (v := Value.int .i64 ce) rfl (by kernel_rfl) (by kernel_rfl) (by kernel_rfl) (fun _ _ _ h => h) (Or.inl ⟨rfl, fun w hSw => by have z := cell_of_blk hSw.2.1 (i := 1) (v := .int .i64 ce) rfl; go_simp⟩) hS ?_
  try simp only [Act.put, List.setIfInBounds_toArray, List.set_cons_zero, List.set_cons_succ]
  refine wpAnyH_take (i := 6) (oi := { dst := some 11, op := Op.fieldAddr 91 (Operand.tmp 3) 2, type := 0, pos := "law.go:46", after := #[], guard := none }) (v := Value.pointer (some ⟨b + 1, 2, none⟩)) rfl (by kernel_rfl) (by kernel_rfl) (by kernel_rfl) (fun _ _ _ h => h) (Or.inl ⟨rfl, fun _ _ => by kernel_rfl⟩) hS ?_
  try simp only [Act.put, List.setIfInBounds_toArray, List.set_cons_zero, List.set_cons_succ]
  refine wpAnyH_take (i := 7) (oi := { dst := some 12, op := Op.load 25 (Operand.tmp 11), type := 25, pos := "law.go:46", after := #[{ on := 6, ground := Ground.data }], guard := none }) (v := Value.int .u64 v) rfl (by kernel_rfl) (by kernel_rfl) (by kernel_rfl) (fun _ _ _ h => h) (Or.inl ⟨rfl, fun w hSw => by have z := cell_of_blk hSw.2.1 (i := 2) (v := .int .u64 v) rfl; go_simp⟩) hS ?_
  try simp only [Act.put, List.setIfInBounds_toArray, List.set_cons_zero, List.set_cons_succ]
  refine wpAnyH_ready (rs := [8]) (by kernel_rfl) (by simp) ?_
  refine AllReadyH.cons (o := { dst := some 13, op := Op.call { callee := Callee.value (Operand.func 61), args := #[Operand.tmp 8, Operand.tmp 10, Operand.const (Value.int IntKind.u64 0), Operand.tmp 12], argTypes := #[33, 3, 25, 25] }, type := 33, pos := "law.go:46", after := #[{ on := 3, ground := Ground.data }, { on := 5, ground := Ground.data }, { on := 7, ground := Ground.data }], guard := none }) rfl (fun K hK => ?_) AllReadyH.nil
  rw [if_pos (by rfl)]
  refine wp_calls 61 #[.agg #[.slice (some ⟨g, 0, none⟩) n cap, .int .i64 cnt, .int .i64 a.k, .int .i64 a.c, .int .u64 a.v, .int .u64 a.o, .int .u64 a.n, .bool a.d], .int .i64 ce, .int .u64 0, .int .u64 v] (by kernel_rfl) (fun v V => (∃ g' c', v = .agg #[.slice (some ⟨g', 0, none⟩) n c', .int .i64 (cnt + 1), .int .i64 AC.k, .int .i64 AC.c, .int .u64 AC.v, .int .u64 AC.o, .int .u64 AC.n, .bool AC.d] ∧ (g' = g ∨ W.heap.size ≤ g') ∧ RowR V g' CC c') ∧ Kept [] W V) ((HL.out _ hk).mono fun e w' ⟨g', c', h1, h2, h3, h4⟩ => ⟨_, h1, ⟨g', c', rfl, h2, h3⟩, h4⟩) ?_
  rintro _ w8 ⟨⟨g', c', rfl, h2, h3⟩, K8⟩
  have B8 := B0.kept K8 (by simp)
  have P8 := P0.kept K8 (by simp)
  have C8 := C0.kept K8 (by simp)
  try simp only [Act.put, List.setIfInBounds_toArray, List.set_cons_zero, List.set_cons_succ]
  refine hK.out _ _ (⟨B8, P8, _, C8⟩) (fun hS => ?_)
  clear hK K
  refine wpAnyH_take (i := 9) (oi := { dst := some 14, op := Op.build 35 #[(0, Operand.tmp 6), (1, Operand.tmp 13)], type := 35, pos := "law.go:46", after := #[{ on := 1, ground := Ground.data }, { on := 8, ground := Ground.data }], guard := none }) (v := Value.agg (rmA c (some ⟨g', 0, none⟩) n c' (cnt + 1) AC)) rfl (by kernel_rfl) (by kernel_rfl) (by kernel_rfl) (fun _ _ _ h => h) (Or.inl ⟨rfl, fun _ _ => by kernel_rfl⟩) hS ?_
  try simp only [Act.put, List.setIfInBounds_toArray, List.set_cons_zero, List.set_cons_succ]
  refine wpAnyH_ready (rs := [10]) (by kernel_rfl) (by simp) ?_
  refine AllReadyH.cons (o := { dst := none, op := Op.store 35 (Operand.tmp 4) (Operand.tmp 14), type := 0, pos := "law.go:46", after := #[{ on := 9, ground := Ground.data }, { on := 8, ground := Ground.chain }, { on := 0, ground := Ground.phase }, { on := 1, ground := Ground.phase }, { on := 2, ground := Ground.phase }, { on := 3, ground := Ground.phase }, { on := 4, ground := Ground.phase }, { on := 5, ground := Ground.phase }, { on := 6, ground := Ground.phase }, { on := 7, ground := Ground.phase }, { on := 8, ground := Ground.phase }, { on := 9, ground := Ground.phase }], guard := none }) rfl (fun K hK => ?_) AllReadyH.nil
  rw [if_pos (by rfl)]
  have o1 := C0.lt
  refine wp_store_row 35 (.tmp 4) (.tmp 14) rfl (b + 1 + 1) (rmA c (some ⟨g', 0, none⟩) n c' (cnt + 1) AC) rfl rfl 35 rmZ C8 (by rw [isT_rm.1]; rfl) rfl (rm_one _ _ _ _ _ _) ?_
  have D := C8.row (rmA c (some ⟨g', 0, none⟩) n c' (cnt + 1) AC)
  simp only [Act.put]
  refine hK.out _ _ (⟨B8.rowOther _ (by omega), P8.rowOther _ (by omega), _, D⟩) (fun hS => ?_)
  clear hK K
  refine wpAnyH_done (by kernel_rfl) ?_ _
  go_wp2
  refine bodyPost_ret (v := .agg (rmA c (some ⟨g', 0, none⟩) n c' (cnt + 1) AC)) ?_ rfl ⟨g', c', rfl, ?_, ?_, ?_⟩
  · obtain ⟨fs, hu⟩ := isT_rm.2
    exact results_cell_row Tryz.results32 _ _ (b + 1 + 1) 35 _ (0, 0) _ rfl D hu rfl (by rw [isT_rm.1]; rfl)
  · have := hk.size; exact h2.imp id (fun h => by omega)
  · refine rowR_far (l := [b + 1 + 1]) (w := w) (W := W) h3 ((Kept.refl [b + 1 + 1] w8).setRow (Or.inl (by simp)) _) (by simp; omega) hgl h2
  · exact (hk.trans K8).setRow (Or.inr (by omega)) _
end K
end Go.Proofs.YtgafmklfpiipcaaGreatDoor
namespace Go.Proofs.YtgafmklfpiipcaaGreatDoor
open Go.RowKit (Grown Hid Below intOf)
open Go.Deep
namespace K
set_option maxRecDepth 100000
/-- Cells, how many accesses there were, and the last one. -/
structure Mst where
  cs : List Int
  n : Int
  a : Acc
def pkS (k : Int) (p : Pk) (x : Mst) : Mst := if p.s = k then ⟨clV x.cs 2 p.c 0 p.v, x.n + 1, acV x.cs 2 p.c 0 0 p.v⟩ else x
def pkF (k : Int) (ps : List Pk) (x : Mst) : Mst := ps.foldl (fun y p => pkS k p y) x
theorem pkS_len (k : Int) (p : Pk) (x : Mst) : (pkS k p x).cs.length = x.cs.length := by
  unfold pkS; split
  · show (clV x.cs 2 p.c 0 p.v).length = _
    unfold clV; split <;> simp
  · rfl
theorem pkS_n (k : Int) (p : Pk) (x : Mst) : x.n ≤ (pkS k p x).n ∧ (pkS k p x).n ≤ x.n + 1 := by
  unfold pkS; split
  · show x.n ≤ x.n + 1 ∧ x.n + 1 ≤ x.n + 1; omega
  · omega
theorem pkF_len (k : Int) : ∀ (ps : List Pk) (x : Mst), (pkF k ps x).cs.length = x.cs.length
  | [], _ => rfl
  | p :: ps, x => (pkF_len k ps (pkS k p x)).trans (pkS_len k p x)
theorem pkF_n (k : Int) : ∀ (ps : List Pk) (x : Mst), x.n ≤ (pkF k ps x).n ∧ (pkF k ps x).n ≤ x.n + ps.length
  | [], x => by show x.n ≤ x.n ∧ x.n ≤ x.n + ((0 : Nat) : Int); omega
  | p :: ps, x => by
    have h1 := pkF_n k ps (pkS k p x)
    have h2 := pkS_n k p x
    show x.n ≤ (pkF k ps (pkS k p x)).n ∧ (pkF k ps (pkS k p x)).n ≤ x.n + (((p :: ps).length : Nat) : Int)
    rw [List.length_cons]; omega
theorem pkF_next (k : Int) (ps : List Pk) (x : Mst) {i : Nat} (h : i < ps.length) : pkF k (ps.take (i + 1)) x = pkS k (ps.getD i pk0) (pkF k (ps.take i) x) := by
  unfold pkF
  rw [List.take_add_one, List.foldl_append]
  simp [h]
theorem pk_row {w : World} {ao : Option Addr} {ps : List Pk} (h : SlOf 3 pkL w ao ps) {k : Nat} (hk : k < ps.length) :
    ∃ b off, ao = some ⟨b, off, none⟩ ∧ b < w.heap.size ∧ w.cell? ⟨b, off + k * 3, none⟩ = some (.int .i64 (ps.getD k pk0).s) ∧ w.cell? ⟨b, off + k * 3 + 1, none⟩ = some (.int .i64 (ps.getD k pk0).c) ∧ w.cell? ⟨b, off + k * 3 + 2, none⟩ = some (.int .u64 (ps.getD k pk0).v) := by
  obtain ⟨b, off, rfl, hb, hc⟩ := h (by omega)
  have e : ps.getD k pk0 = ps[k] := by simp [hk]
  rw [e]
  exact ⟨b, off, rfl, hb, hc k hk 0 _ rfl, hc k hk 1 _ rfl, hc k hk 2 _ rfl⟩
set_option maxHeartbeats 4000000 in
theorem poked_any (m p r g : Nat) (c : Cfg) (x : Mst) (cap : Nat) (ao : Option Addr) (ps : List Pk) (n cp : Nat) (k : Int) (w : World) (hM : Mm w m p r c x.cs x.n x.a) (hR : RowR w g x.cs cap) (hgr : ¬ g = r) (hl : x.cs.length ≤ 17592186044415) (hn : n = ps.length)
    (hs : SlOf 3 pkL w ao ps) (hx : 0 < ps.length → ∀ ad, ao = some ad → ¬ ad.block = p ∧ ¬ ad.block = r) (hc : n ≤ 1000) (c0 : 0 ≤ x.n) (c1 : x.n < 4611686018427386000) :
    Calls Tryz.prog 9 #[.pointer (some ⟨m, 0, none⟩), .agg (rmA c (some ⟨g, 0, none⟩) x.cs.length cap x.n x.a), .slice ao n cp, .int .i64 k] w fun e w' =>
      ∃ g' c', e = .returned (.agg (rmA c (some ⟨g', 0, none⟩) x.cs.length c' (pkF k ps x).n (pkF k ps x).a)) ∧ (g' = g ∨ w.heap.size ≤ g') ∧ RowR w' g' (pkF k ps x).cs c' ∧ Mm w' m p r c (pkF k ps x).cs (pkF k ps x).n (pkF k ps x).a ∧ Kept [p, r] w w' := by
  obtain ⟨b, hb⟩ : ∃ b, b = w.heap.size := ⟨_, rfl⟩
  obtain ⟨L, hL⟩ : ∃ L, L = x.cs.length := ⟨_, rfl⟩
  rw [← hL]
  have ST := hidOf (two_new 35 35 w (rmA c (some ⟨g, 0, none⟩) L cap x.n x.a) rmZ hb)
  have hg := hR.lt
  have HM := hidOf hM
  have HMr : Hid (m < w.heap.size ∧ p < w.heap.size ∧ r < w.heap.size) := ⟨lt_of_blk hM.st, lt_of_blk hM.bk.st, lt_of_blk hM.bk.row⟩
  have HR := hidOf hR
  have HS := hidOf hs
  have HN := hidOf hn
  have HLe := hidOf hL
  clear hM hR hs hn hL
  go_enter Tryz.func9, Tryz.ntmps9
  go_upto_region 1 with (fail)
  rw [← hb]
  refine gen_world (fun W => RW 35 W b (rmA c (some ⟨g, 0, none⟩) L cap x.n x.a) ∧ RW 35 W (b + 1) rmZ ∧ Kept [] w W) ST.out ?_
  have hbw : w.heap.size ≤ b := by omega
  clear ST hb
  rintro W ⟨B0, C0, K0⟩
  have HX := hidOf (And.intro B0 (And.intro C0 K0))
  clear B0 C0 K0
  go_wp2
  go_loopw [13] (fun i wr => ∃ (j g' c' : Nat), j ≤ n ∧ i = .int .i64 j ∧ RW 35 wr b (rmA c (some ⟨g', 0, none⟩) L c' (pkF k (ps.take j) x).n (pkF k (ps.take j) x).a) ∧ RW 35 wr (b + 1) rmZ ∧ Hid (g' = g ∨ w.heap.size ≤ g') ∧ RowR wr g' (pkF k (ps.take j) x).cs c' ∧ Mm wr m p r c (pkF k (ps.take j) x).cs (pkF k (ps.take j) x).n (pkF k (ps.take j) x).a ∧ Kept [p, r] w wr) (fun i _ => n - (intOf i).toNat)
  case atStart =>
    obtain ⟨B0, C0, K0⟩ := HX.out
    exact ⟨0, g, cap, Nat.zero_le _, rfl, B0, C0, Or.inl rfl, HR.out.kept K0 (by simp), HM.out.new K0, K0.weaken (by simp)⟩
  case round =>
    obtain ⟨j, g', c', hj, rfl, D0, C0, hg0, R0, M0, KR⟩ := hrel
    clear HX HR HM
    by_cases hlt : j < n
    · have hltz : (j : Int) < (n : Int) := by omega
      have NX := hidOf (pkF_next k ps x (by rw [← HN.out]; exact hlt))
      obtain ⟨Y, hYe⟩ : ∃ Y, pkF k (ps.take j) x = Y := ⟨_, rfl⟩
      have yb := pkF_n k (ps.take j) x
      have hY : Y.cs.length = L := by rw [← hYe, pkF_len]; exact HLe.out.symm
      rw [List.length_take] at yb
      rw [hYe] at NX D0 R0 M0 yb
      clear hYe
      have y0 : 0 ≤ Y.n := by omega
      have y1 : Y.n < 4611686018427387904 := by have := HN.out; omega
      have hYl : Y.cs.length ≤ 17592186044415 := by rw [hY, HLe.out]; exact hl
      have SL := HS.out.kept KR (fun ad e => by have := hx (by have := HN.out; omega) ad e; simp; omega)
      obtain ⟨b1, o1, e1, lt1, s0, s1, s2⟩ := pk_row SL (by rw [← HN.out]; exact hlt)
      have hgr' : ¬ g' = r := by
        rcases hg0.out with h | h
        · rw [h]; exact hgr
        · have := HMr.out; omega
      have hgp' : ¬ g' = p := fun e => by obtain ⟨rest, z1, z2⟩ := R0; rw [e, M0.bk.st] at z1; simp at z1
      have hgb' : ¬ g' = b := fun e => by obtain ⟨rest, z1, z2⟩ := R0; rw [e, D0] at z1; simp at z1
      have bp : ¬ b = p := by have := HMr.out; omega
      have br : ¬ b = r := by have := HMr.out; omega
      have bm : ¬ b = m := by have := HMr.out; omega
      have cp' : ¬ b + 1 = p := by have := HMr.out; omega
      have cr' : ¬ b + 1 = r := by have := HMr.out; omega
      generalize ps.getD j pk0 = q at NX s0 s1 s2
      obtain ⟨sk, ce, v⟩ := q
      have ss0 : wr.cell? ⟨b1, o1 + j * 3, none⟩ = some (.int .i64 sk) := s0
      have ss1 : wr.cell? ⟨b1, o1 + j * 3 + 1, none⟩ = some (.int .i64 ce) := s1
      have ss2 : wr.cell? ⟨b1, o1 + j * 3 + 2, none⟩ = some (.int .u64 v) := s2
      clear s0 s1 s2 SL
      rw [e1]
      have HF := hidOf (And.intro D0 (And.intro C0 (And.intro R0 (And.intro M0 KR))))
      have szr := D0.lt
      clear D0 C0 R0 M0 KR
      by_cases hk : sk = k
      · subst hk
        have NX' : Hid (pkF sk (ps.take (j + 1)) x = ⟨clV Y.cs 2 ce 0 v, Y.n + 1, acV Y.cs 2 ce 0 0 v⟩) := NX.out.trans (if_pos rfl)
        clear NX
        have NX := NX'
        clear NX'
        obtain ⟨nb, hnb⟩ : ∃ nb, nb = wr.heap.size := ⟨_, rfl⟩
        go_upto_region 5 with (fail)
        rw [← hnb]
        refine gen_world (fun V => RW 91 V nb (pkA ⟨sk, ce, v⟩) ∧ Kept [] wr V) ?_ ?_
        · rw [hnb]; exact ⟨RW.new _ _ _, (Kept.refl [] wr).alloc _⟩
        have nle : wr.heap.size ≤ nb := by omega
        clear hnb ss0 ss1 ss2
        rintro V1 ⟨N1, KV1⟩
        have D1 := HF.out.1.kept KV1.drew (by simp)
        have C1 := HF.out.2.1.kept KV1.drew (by simp)
        have R1 := HF.out.2.2.1.kept KV1.drew (by simp)
        have M1 : Mm V1.drew m p r c Y.cs Y.n Y.a := HF.out.2.2.2.1.new KV1.drew
        have KV : Kept [p, r] w V1.drew := HF.out.2.2.2.2.then KV1.drew (by simp)
        have N1' : RW 91 V1.drew nb (pkA ⟨sk, ce, v⟩) := N1
        have np : ¬ nb = p := by have := HMr.out; have := HF.out.2.2.2.2.size; omega
        have nr : ¬ nb = r := by have := HMr.out; have := HF.out.2.2.2.2.size; omega
        clear HF KV1
        refine wp_region_held_drew (S := fun w' => RW 91 w' nb (pkA ⟨sk, ce, v⟩)) (by kernel_rfl) N1 (fun hS => ?_)
        refine wpAnyH_take (i := 0) (oi := { dst := some 21, op := Op.move (Operand.tmp 0), type := 29, pos := "law.go:53", after := #[], guard := none }) (v := Value.pointer (some ⟨m, 0, none⟩)) rfl (by kernel_rfl) (by kernel_rfl) (by kernel_rfl) (fun _ _ _ h => h) (Or.inl ⟨rfl, fun _ _ => by kernel_rfl⟩) hS ?_
        try simp only [Act.put, List.setIfInBounds_toArray, List.set_cons_zero, List.set_cons_succ]
        refine wpAnyH_take (i := 2) (oi := { dst := some 23, op := Op.fieldAddr 91 (Operand.tmp 10) 1, type := 0, pos := "law.go:53", after := #[], guard := none }) (v := Value.pointer (some ⟨nb, 1, none⟩)) rfl (by kernel_rfl) (by kernel_rfl) (by kernel_rfl) (fun _ _ _ h => h) (Or.inl ⟨rfl, fun _ _ => by kernel_rfl⟩) hS ?_
        try simp only [Act.put, List.setIfInBounds_toArray, List.set_cons_zero, List.set_cons_succ]
        refine wpAnyH_take (i := 3) (oi := { dst := some 24, op := Op.load 3 (Operand.tmp 23), type := 3, pos := "law.go:53", after := #[{ on := 2, ground := Ground.data }], guard := none }) (v := Value.int .i64 ce) rfl (by kernel_rfl) (by kernel_rfl) (by kernel_rfl) (fun _ _ _ h => h) (Or.inl ⟨rfl, fun w hSw => by have z := cell_of_blk hSw (i := 1) (v := .int .i64 ce) rfl; go_simp⟩) hS ?_
        try simp only [Act.put, List.setIfInBounds_toArray, List.set_cons_zero, List.set_cons_succ]
        refine wpAnyH_take (i := 4) (oi := { dst := some 25, op := Op.fieldAddr 91 (Operand.tmp 10) 2, type := 0, pos := "law.go:53", after := #[], guard := none }) (v := Value.pointer (some ⟨nb, 2, none⟩)) rfl (by kernel_rfl) (by kernel_rfl) (by kernel_rfl) (fun _ _ _ h => h) (Or.inl ⟨rfl, fun _ _ => by kernel_rfl⟩) hS ?_
        try simp only [Act.put, List.setIfInBounds_toArray, List.set_cons_zero, List.set_cons_succ]
        refine wpAnyH_take (i := 5) (oi := { dst := some 26, op := Op.load 25 (Operand.tmp 25), type := 25, pos := "law.go:53", after := #[{ on := 4, ground := Ground.data }], guard := none }) (v := Value.int .u64 v) rfl (by kernel_rfl) (by kernel_rfl) (by kernel_rfl) (fun _ _ _ h => h) (Or.inl ⟨rfl, fun w hSw => by have z := cell_of_blk hSw (i := 2) (v := .int .u64 v) rfl; go_simp⟩) hS ?_
        try simp only [Act.put, List.setIfInBounds_toArray, List.set_cons_zero, List.set_cons_succ]
        refine wpAnyH_ready (rs := [1]) (by kernel_rfl) (by simp) ?_
        refine AllReadyH.cons (o := { dst := some 22, op := Op.call { callee := Callee.value (Operand.func 20), args := #[Operand.tmp 21], argTypes := #[29] }, type := 69, pos := "law.go:53", after := #[{ on := 0, ground := Ground.data }], guard := none }) rfl (fun K hK => ?_) AllReadyH.nil
        rw [if_pos (by rfl)]
        refine wp_calls 20 #[.pointer (some ⟨m, 0, none⟩)] (by kernel_rfl) (fun v V => v = .pointer (some ⟨p, 0, none⟩) ∧ V = V1.drew) ((bank_any m p r c Y.cs Y.n Y.a V1.drew M1).mono fun e w' hh => ⟨_, hh.1, rfl, hh.2⟩) ?_
        rintro _ _ ⟨rfl, rfl⟩
        try simp only [Act.put, List.setIfInBounds_toArray, List.set_cons_zero, List.set_cons_succ]
        refine hK.out _ _ (N1') (fun hS => ?_)
        clear hK K
        refine wpAnyH_ready (rs := [6]) (by kernel_rfl) (by simp) ?_
        refine AllReadyH.cons (o := { dst := some 27, op := Op.call { callee := Callee.value (Operand.func 31), args := #[Operand.tmp 22, Operand.tmp 24, Operand.const (Value.int IntKind.u64 0), Operand.tmp 26], argTypes := #[69, 3, 25, 25] }, type := 0, pos := "law.go:53", after := #[{ on := 1, ground := Ground.data }, { on := 3, ground := Ground.data }, { on := 5, ground := Ground.data }, { on := 1, ground := Ground.chain }], guard := none }) rfl (fun K hK => ?_) AllReadyH.nil
        rw [if_pos (by rfl)]
        refine wp_calls 31 #[.pointer (some ⟨p, 0, none⟩), .int .i64 ce, .int .u64 0, .int .u64 v] (by kernel_rfl) (fun u V => u = .tuple #[] ∧ Bk V p r (clV Y.cs 2 ce 0 v) (Y.n + 1) (acV Y.cs 2 ce 0 0 v) ∧ Kept [p, r] V1.drew V) ((store_any p r Y.cs Y.n Y.a ce 0 v V1.drew M1.bk y0 y1).mono fun e w' hh => ⟨_, hh.1, rfl, hh.2.1, hh.2.2⟩) ?_
        rintro _ w6 ⟨rfl, B6, K6⟩
        have N6 := N1'.kept K6 (by simp; omega)
        try simp only [Act.put, List.setIfInBounds_toArray, List.set_cons_zero, List.set_cons_succ]
        refine hK.out _ _ (N6) (fun hS => ?_)
        clear hK K
        refine wpAnyH_done (by kernel_rfl) ?_ _
        have nouse := hS
        clear nouse
        have M6 : Mm w6 m p r c (clV Y.cs 2 ce 0 v) (Y.n + 1) (acV Y.cs 2 ce 0 0 v) := Mm.step M1 K6 B6
        have D6 := D1.kept K6 (by simp; omega)
        have C6 := C1.kept K6 (by simp; omega)
        have R6 := R1.kept K6 (by simp; omega)
        have K7 : Kept [p, r] w w6 := KV.trans K6
        have HX6 := hidOf (And.intro M6 (And.intro D6 (And.intro C6 (And.intro R6 (And.intro K7 N6)))))
        have PR := hidOf (pokedRef_any sk ce v c g' Y.cs c' Y.n Y.a w6 R6 hYl y0 y1)
        rw [hY] at PR
        have szb := D6.lt
        have szc := C6.lt
        clear M6 D6 C6 R6 K7 N6 B6 K6 M1 D1 C1 R1 N1 N1' KV hS
        go_wp2_with (first
          | ((with_reducible change wpList _ _ _ (Oper.mk _ (Op.load 35 _) _ _ _ _ :: _) _ _); refine wpList_load_rw 35 isT_rm rfl (.tmp 5) rfl b rfl (rmA c (some ⟨g', 0, none⟩) L c' Y.n Y.a) rfl HX6.out.2.1 ?_)
          | ((with_reducible change wpList _ _ _ (Oper.mk _ (Op.load 91 _) _ _ _ _ :: _) _ _); refine wpList_load_rw 91 isT_pk rfl (.tmp 10) rfl nb rfl (pkA ⟨sk, ce, v⟩) rfl HX6.out.2.2.2.2.2 ?_))
        refine PR.out.mono ?_
        rintro e w8 ⟨g2, c2, rfl, h2, R8, K8⟩
        have D8 := HX6.out.2.1.kept K8 (by simp)
        have HX8 := hidOf (And.intro (HX6.out.1.new K8) (And.intro (HX6.out.2.2.1.kept K8 (by simp)) (And.intro R8 (HX6.out.2.2.2.2.1.then K8 (by simp)))))
        have G2 : Hid (g2 = g ∨ w.heap.size ≤ g2) := by
          rcases h2 with rfl | h2
          · exact hg0.out
          · exact Or.inr (by have := HX6.out.2.2.2.2.1.size; omega)
        have gb : ¬ g2 = b := fun e => by obtain ⟨rest, z1, z2⟩ := R8; rw [e] at z1; rw [D8] at z1; simp at z1
        clear PR HX6 K8 R8 h2
        go_wp2_with (first
          | ((with_reducible change wpList _ _ _ (Oper.mk _ (Op.store 35 _ _) _ _ _ _ :: _) _ _); refine wpList_store_rw 35 isT_rm rfl (.tmp 5) (.tmp 30) rfl b (rmA c (some ⟨g2, 0, none⟩) L c2 (Y.n + 1) (acV Y.cs 2 ce 0 0 v)) rfl rfl rfl (rm_one _ _ _ _ _ _) _ D8 rfl ?_))
        go_roundw
        case rel =>
          obtain ⟨MM, CC, RR, KK⟩ := HX8.out
          have kr : Kept [b] w8 (w8.setRow b (rmA c (some ⟨g2, 0, none⟩) L c2 (Y.n + 1) (acV Y.cs 2 ce 0 0 v))) := (Kept.refl [b] w8).setRow (Or.inl (by simp)) _
          refine ⟨j + 1, g2, c2, by omega, by go_num, ?_, CC.kept kr (by simp), G2, ?_, ?_, KK.then kr (by simp; omega)⟩
          · rw [NX.out]; exact D8.row _
          · rw [NX.out]; exact RR.kept kr (by simp; omega)
          · rw [NX.out]; exact MM.kept kr (by simp; omega) (by simp; omega) (by simp; omega)
        case measure => simp [intOf]; omega
      · have NX' : Hid (pkF k (ps.take (j + 1)) x = Y) := NX.out.trans (if_neg hk)
        have hkb : (sk == k) = false := by simp [hk]
        clear NX
        go_wp2
        go_roundw
        case rel =>
          have kr : Kept [] wr (wr.alloc (.cells (pkA ⟨sk, ce, v⟩) 91)) := (Kept.refl [] wr).alloc _
          obtain ⟨D0, C0, R0, M0, KR⟩ := HF.out
          refine ⟨j + 1, g', c', by omega, by go_num, ?_, C0.kept kr (by simp), hg0, ?_, ?_, KR.then kr (by simp)⟩
          · rw [NX'.out]; exact D0.kept kr (by simp)
          · rw [NX'.out]; exact R0.kept kr (by simp)
          · rw [NX'.out]; exact M0.new kr
        case measure => simp [intOf]; omega
    · have hje : j = n := by omega
      have e2 : ps.take j = ps := List.take_of_length_le (by rw [hje]; exact Nat.le_of_eq HN.out.symm)
      rw [e2] at D0 R0 M0
      have HF := hidOf (And.intro D0 (And.intro C0 (And.intro R0 (And.intro M0 KR))))
      have HMr' := HMr.out
      clear D0 C0 R0 M0 KR e2 HMr
      go_wp2_with (first
        | ((with_reducible change wpList _ _ _ (Oper.mk _ (Op.load 35 _) _ _ _ _ :: _) _ _); refine wpList_load_rw 35 isT_rm rfl (.tmp 5) rfl b rfl (rmA c (some ⟨g', 0, none⟩) L c' (pkF k ps x).n (pkF k ps x).a) rfl HF.out.1 ?_)
        | ((with_reducible change wpList _ _ _ (Oper.mk _ (Op.store 35 _ _) _ _ _ _ :: _) _ _); refine wpList_store_rw 35 isT_rm rfl (.tmp 8) (.tmp 32) rfl (b + 1) (rmA c (some ⟨g', 0, none⟩) L c' (pkF k ps x).n (pkF k ps x).a) rfl rfl rfl (rm_one _ _ _ _ _ _) rmZ HF.out.2.1 rfl ?_))
      obtain ⟨D0, C0, R0, M0, KR⟩ := HF.out
      have kr : Kept [b + 1] wr (wr.setRow (b + 1) (rmA c (some ⟨g', 0, none⟩) L c' (pkF k ps x).n (pkF k ps x).a)) := (Kept.refl [b + 1] wr).setRow (Or.inl (by simp)) _
      have hgb' : ¬ g' = b + 1 := fun e => by obtain ⟨rest, z1, z2⟩ := R0; rw [e, C0] at z1; simp at z1
      refine bodyPost_ret (v := .agg (rmA c (some ⟨g', 0, none⟩) L c' (pkF k ps x).n (pkF k ps x).a)) ?_ rfl ⟨g', c', rfl, hg0.out, R0.kept kr (by simp; omega), M0.kept kr (by simp; omega) (by simp; omega) (by simp; omega), KR.then kr (by simp; omega)⟩
      obtain ⟨fs, hu⟩ := isT_rm.2
      exact results_cell_row Tryz.results9 _ _ (b + 1) 35 _ (0, 0) _ rfl (C0.row _) hu rfl (by rw [isT_rm.1]; rfl)
end K
end Go.Proofs.YtgafmklfpiipcaaGreatDoor
namespace Go.Proofs.YtgafmklfpiipcaaGreatDoor
open Go.RowKit (Grown Hid Below)
open Go.Deep
namespace K
set_option maxRecDepth 100000
theorem nin5 {x a b c d e : Nat} (h1 : ¬ x = a) (h2 : ¬ x = b) (h3 : ¬ x = c) (h4 : ¬ x = d) (h5 : ¬ x = e) : x ∉ [a, b, c, d, e] := by simp [h1, h2, h3, h4, h5]
section
variable {base : Nat → Prop} {w0 w w' : World} {b fb gb m p r : Nat} {c : Cfg} {g : Gs} {s : Rtm} {cs : List Int} {cnt : Int} {a : Acc}
theorem fs_blk {A : Array Value} {x : Nat} {T : TypeId} {f : Fm} (h : FS base w b c f) (hx : w.heap[x]? = some (.cells A T (0, 0))) (hT : T ≠ 113) : ¬ b = x := by
  rcases h.2 with z | ⟨_, _, _, _, gg, A, z⟩
  · exact blk_ne (T1 := 113) z.fb hx (fun e => hT e.symm)
  · exact blk_ne (T1 := 113) z.fb hx (fun e => hT e.symm)
/-- A block of another type is none of a retire's, its find's, its guard's and its words'. -/
theorem RtW.apart (h : RtW base w0 w b fb gb m p r c g s cs cnt a) {T : TypeId} {d : Nat} {X : Array Value} (rd : RW T w d X) (h0 : T ≠ 75) (h1 : T ≠ 113) (h2 : T ≠ 79) (h3 : T ≠ 109) (h4 : T ≠ 143) (h5 : T ≠ 25) : ¬ d = b ∧ ¬ d = fb ∧ ¬ d = gb ∧ ¬ d = m ∧ ¬ d = p ∧ ¬ d = r :=
  ⟨blk_ne rd h.rb h0, fun e => fs_blk h.fw.st.fs rd h1 e.symm, blk_ne rd h.fw.st.gd h2, blk_ne rd h.fw.st.mm.st h3, blk_ne rd h.fw.st.mm.bk.st h4, blk_ne rd h.fw.st.mm.bk.row h5⟩
theorem FK.rw5 (h : FK base [b, fb, gb, p, r] w w') {T : TypeId} {d : Nat} {X : Array Value} (rd : RW T w d X) (hT : T ≠ 166) (ap : ¬ d = b ∧ ¬ d = fb ∧ ¬ d = gb ∧ ¬ d = m ∧ ¬ d = p ∧ ¬ d = r) : RW T w' d X := h.blk rd hT (nin5 ap.1 ap.2.1 ap.2.2.1 ap.2.2.2.2.1 ap.2.2.2.2.2)
theorem FK.rowR {bs : List Nat} (h : FK base bs w w') {q cap : Nat} {xs : List Int} (row : RowR w q xs cap) (hn : q ∉ bs) : RowR w' q xs cap := by
  obtain ⟨rest, z, e⟩ := row
  exact ⟨rest, h.blk z (by decide) hn, e⟩
theorem SlB.fk2 {base2 : Nat} {bs : List Nat} {ao : Option Addr} {cap : Nat} {xs : List Int} (h : SlB base2 w ao cap xs) (k : FK base bs w w') (hb : ∀ x ∈ bs, x < base2 ∨ ∃ A T, T ≠ 25 ∧ w.heap[x]? = some (.cells A T (0, 0))) : SlB base2 w' ao cap xs := by
  obtain ⟨l, kk, hl⟩ := k
  refine h.far kk (fun ad e hx => ?_)
  obtain ⟨cur, z⟩ := h.t ad e
  rcases hl _ hx with y | y | ⟨_, B, y⟩
  · rcases hb _ y with q | ⟨A, T, hT, q⟩
    · have := h.b ad e; omega
    · exact blk_ne z q (fun e => hT e.symm) rfl
  · have := lt_of_blk z; omega
  · unfold EB RW at y; rw [z] at y; simp at y
theorem RT.fk2 {s : Rd} {base2 : Nat} {bs : List Nat} {A : Array Value} (h : RT base2 w s A) (k : FK base bs w w') (hb : ∀ x ∈ bs, x < base2 ∨ ∃ A T, T ≠ 25 ∧ w.heap[x]? = some (.cells A T (0, 0))) : RT base2 w' s A := by
  obtain ⟨A', e0, a1, c1, a2, c2, a3, c3, e, h1, h2, h3⟩ := h
  exact ⟨A', e0, a1, c1, a2, c2, a3, c3, e, h1.fk2 k hb, h2.fk2 k hb, h3.fk2 k hb⟩
theorem fs_ex {f : Fm} (h : FS base w b c f) : ∃ A, w.heap[b]? = some (.cells A 113 (0, 0)) := by
  rcases h.2 with z | ⟨x, s, era, lw, gg, A, z⟩
  · exact ⟨_, z.fb⟩
  · exact ⟨_, z.fb⟩
/-- Another block is written. -/
theorem RtW.box (h : RtW base w0 w b fb gb m p r c g s cs cnt a) {T : TypeId} {d : Nat} {X : Array Value} (rd : RW T w d X) (hT : T ≠ 166) (ap : ¬ d = b ∧ ¬ d = fb ∧ ¬ d = gb ∧ ¬ d = m ∧ ¬ d = p ∧ ¬ d = r) (o : w0.heap.size ≤ d) (K : Kept [d] w w') : RtW base w0 w' b fb gb m p r c g s cs cnt a := by
  obtain ⟨a0, a1, a2, a3, a4, a5⟩ := ap
  have KK : Kept [] w0 w' := h.fw.kp.then K (by simp; omega)
  exact ⟨h.rb.kept K (nin1 (fun e => a0 e.symm)), ⟨⟨h.fw.st.R, h.fw.st.fs.kept K (nin1 (fun e => a1 e.symm)) (fun g3 _ he => by
      obtain ⟨A, hA⟩ := he
      exact nin1 (blk_ne (T1 := 166) hA rd (fun e => hT e.symm))), h.fw.st.gd.kept K (nin1 (fun e => a2 e.symm)), h.fw.st.mm.kept K (nin1 (fun e => a3 e.symm)) (nin1 (fun e => a4 e.symm)) (nin1 (fun e => a5 e.symm)), h.fw.t0.kept KK, h.fw.st.fi, h.fw.st.wd, h.fw.st.u0, h.fw.st.u1, h.fw.st.g0, fun z hz => h.fw.st.bs z (Nat.le_trans K.size hz)⟩, KK, h.fw.ob, h.fw.og, h.fw.op, h.fw.ow, h.fw.os, h.fw.n0, h.fw.t0⟩, h.ri, h.ob⟩
end
def Bo0 (w : World) : Nat → Prop := fun z => w.heap.size ≤ z
/-- The program's retire (gp, sp, xp) and the document's (g, s, x, which lie where). -/
structure LRt (W w : World) (q8 d1 d2 b fb gb m p r base2 n : Nat) (c : Cfg) (gp : Gs) (sp : Rtm) (xp : Mst) (g : Gs) (s : Rd) (x : Mst) (gg c' : Nat) (A : Array Value) : Prop where
  fw : RtW (Bo0 W) W w b fb gb m p r c gp sp xp.cs xp.n xp.a
  rm : RW 35 w q8 (rmA c (some ⟨gg, 0, none⟩) n c' x.n x.a)
  row : RowR w gg x.cs c'
  rf1 : RW 48 w d1 A
  rf : RT base2 w s A
  rg : RW 51 w d2 (rgA g)
  len : x.cs.length = n
  gr : ¬ gg = r
  bb : b < base2 ∧ gb < base2 ∧ p < base2 ∧ r < base2
  oq : W.heap.size ≤ q8 ∧ W.heap.size ≤ d1 ∧ W.heap.size ≤ d2
  bw : base2 ≤ w.heap.size
section
variable {W w w' : World} {q8 d1 d2 b fb gb m p r base2 n : Nat} {c : Cfg} {gp g : Gs} {sp : Rtm} {s : Rd} {xp x : Mst} {gg c' : Nat} {A : Array Value}
theorem LRt.apM (h : LRt W w q8 d1 d2 b fb gb m p r base2 n c gp sp xp g s x gg c' A) : ¬ q8 = b ∧ ¬ q8 = fb ∧ ¬ q8 = gb ∧ ¬ q8 = m ∧ ¬ q8 = p ∧ ¬ q8 = r := h.fw.apart h.rm (by decide) (by decide) (by decide) (by decide) (by decide) (by decide)
theorem LRt.apF (h : LRt W w q8 d1 d2 b fb gb m p r base2 n c gp sp xp g s x gg c' A) : ¬ d1 = b ∧ ¬ d1 = fb ∧ ¬ d1 = gb ∧ ¬ d1 = m ∧ ¬ d1 = p ∧ ¬ d1 = r := h.fw.apart h.rf1 (by decide) (by decide) (by decide) (by decide) (by decide) (by decide)
theorem LRt.apG (h : LRt W w q8 d1 d2 b fb gb m p r base2 n c gp sp xp g s x gg c' A) : ¬ d2 = b ∧ ¬ d2 = fb ∧ ¬ d2 = gb ∧ ¬ d2 = m ∧ ¬ d2 = p ∧ ¬ d2 = r := h.fw.apart h.rg (by decide) (by decide) (by decide) (by decide) (by decide) (by decide)
theorem LRt.apR (h : LRt W w q8 d1 d2 b fb gb m p r base2 n c gp sp xp g s x gg c' A) : gg ∉ [b, fb, gb, p, r] := by
  refine nin5 (h.row.ne h.fw.rb (by decide)) ?_ (h.row.ne h.fw.fw.st.gd (by decide)) (h.row.ne h.fw.fw.st.mm.bk.st (by decide)) h.gr
  obtain ⟨F, hF⟩ := fs_ex h.fw.fw.st.fs
  exact h.row.ne hF (by decide)
theorem LRt.new (h : LRt W w q8 d1 d2 b fb gb m p r base2 n c gp sp xp g s x gg c' A) (k : Kept [] w w') : LRt W w' q8 d1 d2 b fb gb m p r base2 n c gp sp xp g s x gg c' A :=
  ⟨h.fw.new k, h.rm.kept k (by simp), h.row.kept k (by simp), h.rf1.kept k (by simp), h.rf.new k, h.rg.kept k (by simp), h.len, h.gr, h.bb, h.oq, Nat.le_trans h.bw k.size⟩
/-- The program has done its step. -/
theorem LRt.fk {gp2 : Gs} {sp2 : Rtm} {xp2 : Mst} {fb2 : Nat} (h : LRt W w q8 d1 d2 b fb gb m p r base2 n c gp sp xp g s x gg c' A) (F : RtW (Bo0 W) W w' b fb2 gb m p r c gp2 sp2 xp2.cs xp2.n xp2.a) (k : FK (Bo0 W) [b, fb, gb, p, r] w w') : LRt W w' q8 d1 d2 b fb2 gb m p r base2 n c gp2 sp2 xp2 g s x gg c' A := by
  have bb := h.bb
  obtain ⟨F0, hF⟩ := fs_ex h.fw.fw.st.fs
  exact ⟨F, k.rw5 h.rm (by decide) h.apM, k.rowR h.row h.apR, k.rw5 h.rf1 (by decide) h.apF, h.rf.fk2 k (by
    intro z hz
    simp at hz
    rcases hz with e | e | e | e | e
    · exact Or.inl (by omega)
    · subst e; exact Or.inr ⟨_, _, by decide, hF⟩
    · exact Or.inl (by omega)
    · exact Or.inl (by omega)
    · exact Or.inl (by omega)), k.rw5 h.rg (by decide) h.apG, h.len, h.gr, h.bb, h.oq, Nat.le_trans h.bw k.size⟩
/-- The document has done its step too. -/
theorem LRt.sync {g2 : Gs} {s2 : Rd} {x2 : Mst} {X B : Array Value} (h : LRt W w q8 d1 d2 b fb gb m p r base2 n c g2 (s2.m) x2 g s x gg c' A) (k : Kept [] w w') (RX : RT base2 w' s2 X) (WB : Wv w gg c n x2.cs x2.n x2.a B w') (hl : x2.cs.length = n) :
    ∃ gg2 c2, B = rmA c (some ⟨gg2, 0, none⟩) n c2 x2.n x2.a ∧ LRt W (((w'.setRow d1 X).setRow q8 B).setRow d2 (rgA g2)) q8 d1 d2 b fb gb m p r base2 n c g2 (s2.m) x2 g2 s2 x2 gg2 c2 X := by
  obtain ⟨gg2, c2, eB, hg, R2⟩ := WB
  refine ⟨gg2, c2, eB, ?_⟩
  have H := h.new k
  have n1 : ¬ q8 = d1 := blk_ne H.rm H.rf1 (by decide)
  have n2 : ¬ d2 = d1 := blk_ne H.rg H.rf1 (by decide)
  have n3 : ¬ q8 = d2 := blk_ne H.rm H.rg (by decide)
  have rm1 := H.rm.rowOther X n1
  have rg1 := H.rg.rowOther X n2
  have rg2 := rg1.rowOther B (c := q8) (fun e => n3 e.symm)
  have k1 := k_row w' d1 X
  have k2 := k_row (w'.setRow d1 X) q8 B
  have k3 := k_row ((w'.setRow d1 X).setRow q8 B) d2 (rgA g2)
  have F1 := H.fw.box H.rf1 (by decide) H.apF h.oq.2.1 k1
  have F2 := F1.box rm1 (by decide) H.apM h.oq.1 k2
  have F3 := F2.box rg2 (by decide) H.apG h.oq.2.2 k3
  have R3 := ((R2.kept k1 (nin1 (R2.ne H.rf1 (by decide)))))
  have R4 := R3.kept k2 (nin1 (R3.ne rm1 (by decide)))
  have R5 := R4.kept k3 (nin1 (R4.ne rg2 (by decide)))
  have gr2 : ¬ gg2 = r := by
    rcases hg with e | e
    · rw [e]; exact h.gr
    · have := lt_of_blk h.fw.fw.st.mm.bk.row; omega
  exact ⟨F3, by rw [← eB]; exact (rm1.row B).rowOther _ n3, R5, ((H.rf1.row X).rowOther B (fun e => n1 e.symm)).rowOther _ (fun e => n2 e.symm), ((RX.far1 H.rf1 (by decide) k1).far1 rm1 (by decide) k2).far1 rg2 (by decide) k3, rg2.row _, hl, gr2, h.bb, h.oq, Nat.le_trans H.bw (by rw [setRow_size, setRow_size, setRow_size]; exact Nat.le_refl _)⟩
/-- Others have written. -/
theorem LRt.poke {x2 : Mst} {gg2 c2 : Nat} (h : LRt W w q8 d1 d2 b fb gb m p r base2 n c g (s.m) x g s x gg c' A) (k : Kept [p, r] w w') (M : Mm w' m p r c x2.cs x2.n x2.a) (hg : gg2 = gg ∨ w.heap.size ≤ gg2) (R2 : RowR w' gg2 x2.cs c2) (hl : x2.cs.length = n) (wd : Wds x2.cs) (n0 : 0 ≤ x2.n) :
    LRt W (w'.setRow q8 (rmA c (some ⟨gg2, 0, none⟩) n c2 x2.n x2.a)) q8 d1 d2 b fb gb m p r base2 n c g (s.m) x2 g s x2 gg2 c2 A := by
  have aM := h.apM
  have aF := h.apF
  have aG := h.apG
  have rm1 := h.rm.kept k (by simp; omega)
  have rf1 := h.rf1.kept k (by simp; omega)
  have rg1 := h.rg.kept k (by simp; omega)
  have bb := h.bb
  have RF1 : RT base2 w' s A := h.rf.kept k (by intro z hz; simp at hz; omega)
  have n1 : ¬ d1 = q8 := blk_ne rf1 rm1 (by decide)
  have n2 : ¬ d2 = q8 := blk_ne rg1 rm1 (by decide)
  have k1 := k_row w' q8 (rmA c (some ⟨gg2, 0, none⟩) n c2 x2.n x2.a)
  have F1 := (h.fw.mm M k wd n0).box rm1 (by decide) aM h.oq.1 k1
  have gr2 : ¬ gg2 = r := by
    rcases hg with e | e
    · rw [e]; exact h.gr
    · have := lt_of_blk h.fw.fw.st.mm.bk.row; omega
  exact ⟨F1, rm1.row _, R2.kept k1 (nin1 (R2.ne rm1 (by decide))), rf1.rowOther _ n1, RF1.far1 rm1 (by decide) k1, rg1.rowOther _ n2, hl, gr2, h.bb, h.oq, Nat.le_trans h.bw (by rw [setRow_size]; exact k.size)⟩
end
theorem pkS_wd {k : Int} {p : Pk} {x : Mst} (h : Wds x.cs) (hp : p.wf) : Wds (pkS k p x).cs := by
  unfold pkS; split
  · exact wds_clV h 2 _ _ (by decide) hp
  · exact h
theorem pkF_wd {k : Int} : ∀ {ps : List Pk} {x : Mst}, Wds x.cs → (∀ p ∈ ps, p.wf) → Wds (pkF k ps x).cs
  | [], _, h, _ => h
  | p :: ps, x, h, hp => pkF_wd (ps := ps) (x := pkS k p x) (pkS_wd h (hp p (by simp))) (fun y hy => hp y (by simp [hy]))
end K
end Go.Proofs.YtgafmklfpiipcaaGreatDoor
