/-
  The document's words as a value that survives writes to other blocks; its load and its swap, as a whole.
  The document's help, as a value, and its step.
-/
import Derived.Test.YtjbdaejkofkcpaaDoorKBase
import Derived.Test.YtjbdaejkofkcpaaDoorFLay
import Derived.Test.YtjbdaejkofkcpaaDoorMRef2
import Derived.Test.YtjbdaejkofkcpaaDoorMRef3
import Derived.Test.YtjbdaejkofkcpaaDoorJHelp
import Derived.Test.YtjbdaejkofkcpaaDoorGOwn
namespace Go.Proofs.YtjbdaejkofkcpaaDoor
open Go.RowKit (Grown Hid Below)
open Go.Deep
namespace K
set_option maxRecDepth 100000
theorem Wv.size {w V : World} {g : Nat} {c : Cfg} {n : Nat} {cs : List Int} {cnt : Int} {a : Acc} {A : Array Value} (h : Wv w g c n cs cnt a A V) : A.size = 15 := by obtain ⟨g', c', e, _⟩ := h; rw [e]; rfl
theorem Wv.allOne {w V : World} {g : Nat} {c : Cfg} {n : Nat} {cs : List Int} {cnt : Int} {a : Acc} {A : Array Value} (h : Wv w g c n cs cnt a A V) : A.all (·.oneCell') = true := by obtain ⟨g', c', e, _⟩ := h; rw [e]; exact rm_one _ _ _ _ _ _
theorem Wv.cells {w V : World} {g : Nat} {c : Cfg} {n : Nat} {cs : List Int} {cnt : Int} {a : Acc} {A : Array Value} (h : Wv w g c n cs cnt a A V) : A[3]? = some (.int .i64 c.h) ∧ A[8]? = some (.int .i64 cnt) := by obtain ⟨g', c', e, _⟩ := h; rw [e]; exact ⟨rfl, rfl⟩
theorem Wv.new {w V V' : World} {g : Nat} {c : Cfg} {n : Nat} {cs : List Int} {cnt : Int} {a : Acc} {A : Array Value} (h : Wv w g c n cs cnt a A V) (k : Kept [] V V') : Wv w g c n cs cnt a A V' := by obtain ⟨g', c', e, h1, h2⟩ := h; exact ⟨g', c', e, h1, h2.kept k (by simp)⟩
theorem Wv.one {w V V' : World} {g : Nat} {c : Cfg} {n : Nat} {cs : List Int} {cnt : Int} {a : Acc} {A : Array Value} (h : Wv w g c n cs cnt a A V) {T : TypeId} {b : Nat} {B : Array Value} (r : RW T V b B) (hT : 25 ≠ T) (k : Kept [b] V V') : Wv w g c n cs cnt a A V' := by
  obtain ⟨g', c', e, h1, h2⟩ := h
  exact ⟨g', c', e, h1, h2.kept k (by simp; exact h2.ne r (fun e => hT e.symm))⟩
theorem Wv.old {w w2 V : World} {g : Nat} {c : Cfg} {n : Nat} {cs : List Int} {cnt : Int} {a : Acc} {A : Array Value} (h : Wv w2 g c n cs cnt a A V) (k : w.heap.size ≤ w2.heap.size) : Wv w g c n cs cnt a A V := by
  obtain ⟨g', c', e, h1, h2⟩ := h
  exact ⟨g', c', e, h1.imp id (fun h => by omega), h2⟩
/-- The document's load, its words as a whole. -/
theorem rloadW (c : Cfg) (g : Nat) (cs : List Int) (cap : Nat) (cnt : Int) (a : Acc) (h f : Int) (w : World) (hR : RowR w g cs cap) (hl : cs.length ≤ 17592186044415) (h0 : isW h) (c0 : 0 ≤ cnt) (c1 : cnt < 4611686018427387904) :
    Calls Tryd.prog 39 #[.agg (rmA c (some ⟨g, 0, none⟩) cs.length cap cnt a), .int .u64 h, .int .i64 f] w fun e w' => ∃ B, e = .returned (.tuple #[.agg B, .int .u64 (fd c cs (ixV h) f)]) ∧ Wv w g c cs.length cs (cnt + 1) (acV cs 1 (clV' c (ixV h) f) (plainV h) 0 0) B w' ∧ Kept [] w w' := by
  refine (qload_any c g cs cap cnt a h f w hR hl h0.1 h0.2 c0 c1).mono ?_
  rintro e w' ⟨g', c', rfl, h1, h2, k⟩
  rw [clV_load] at h2
  rw [ld_o]
  exact ⟨_, rfl, ⟨g', c', rfl, h1, h2⟩, k⟩
theorem rswapW (c : Cfg) (g : Nat) (cs : List Int) (cap : Nat) (cnt : Int) (a : Acc) (h f old v : Int) (w : World) (hR : RowR w g cs cap) (hl : cs.length ≤ 17592186044415) (h0 : isW h) (c0 : 0 ≤ cnt) (c1 : cnt < 4611686018427387904) :
    Calls Tryd.prog 42 #[.agg (rmA c (some ⟨g, 0, none⟩) cs.length cap cnt a), .int .u64 h, .int .i64 f, .int .u64 old, .int .u64 v] w fun e w' => ∃ B, e = .returned (.tuple #[.agg B, .bool (acV cs 3 (clV' c (ixV h) f) (plainV h) old v).d]) ∧ Wv w g c cs.length (clV cs 3 (clV' c (ixV h) f) old v) (cnt + 1) (acV cs 3 (clV' c (ixV h) f) (plainV h) old v) B w' ∧ Kept [] w w' := by
  refine (qswap_any c g cs cap cnt a h f old v w hR hl h0.1 h0.2 c0 c1).mono ?_
  rintro e w' ⟨g', c', rfl, h1, h2, k⟩
  exact ⟨_, rfl, ⟨g', c', rfl, h1, h2⟩, k⟩
theorem wp_alloc_any {o : Oper} {a : Act} {w : World} {K : Act → World → Prop} {Q : Exit → Act → World → Prop} (T : TypeId) (Z : Array Value) (hrun : (execOp a.eval o).run Tryd.prog w = .ok (.value (.pointer (some ⟨w.heap.size, 0, none⟩))) (w.alloc (.cells Z T)))
    (h : ∀ d wa, RW T wa d Z → w.heap.size ≤ d → Kept [] w wa → K (a.put o.dst (.pointer (some ⟨d, 0, none⟩))) wa) : o.wp Tryd.prog a w K Q := by
  unfold Oper.wp; rw [hrun, Oper.upon_value]; exact h _ _ (RW.new T w Z) (Nat.le_refl _) ((Kept.refl [] w).alloc _)
/-- 'return f(x), y': what a function makes of the first struct is given back, and the other one. -/
def ret1c (d1 d2 d3 x1 x2 y1 y2 : Nat) (F T1 T2 : Nat) (p1 p2 p3 p4 p5 : String) : Array Oper := #[{ dst := some d1, op := .load T1 (.tmp x1), type := T1, pos := p1, after := #[], guard := none }, { dst := some d2, op := .call { callee := .value (.func F), args := #[.tmp d1], argTypes := #[T1] }, type := T1, pos := p2, after := #[{ on := 0, ground := .data }], guard := none }, { dst := some d3, op := .load T2 (.tmp x2), type := T2, pos := p3, after := #[{ on := 3, ground := .gcOnly .lateStores }], guard := none }, { dst := none, op := .store T1 (.tmp y1) (.tmp d2), type := 0, pos := p4, after := #[{ on := 1, ground := .data }, { on := 1, ground := .chain }, { on := 0, ground := .phase }, { on := 1, ground := .phase }, { on := 2, ground := .textOnly .lateStores }], guard := none }, { dst := none, op := .store T2 (.tmp y2) (.tmp d3), type := 0, pos := p5, after := #[{ on := 2, ground := .data }, { on := 3, ground := .chain }, { on := 0, ground := .phase }, { on := 1, ground := .phase }, { on := 2, ground := .phase }, { on := 3, ground := .phase }], guard := none }]
set_option maxHeartbeats 4000000 in
theorem wp_ret1c {id d1 d2 d3 x1 x2 y1 y2 : Nat} {p1 p2 p3 p4 p5 : String} {F T1 T2 n1 n2 : Nat} {Q : Exit → Act → World → Prop} {a : Act} {w : World} (h1 : IsT T1 n1) (h2 : IsT T2 n2)
    (f0 : Region.free .any (ret1c d1 d2 d3 x1 x2 y1 y2 F T1 T2 p1 p2 p3 p4 p5) #[false, false, false, false, false] 0 = true) (f2 : Region.free .any (ret1c d1 d2 d3 x1 x2 y1 y2 F T1 T2 p1 p2 p3 p4 p5) #[true, false, false, false, false] 2 = true)
    (hQ : ∀ c a w v (d : Nat), Q (.panic c) (Act.put a (some d) v) w → Q (.panic c) a w)
    (b1 b2 c1 c2 : Nat) (A B D O1 O2 : Array Value) (hA : A.size = n1) (hB : B.size = n2) (hD : D.size = n1) (oD : D.all (·.oneCell') = true) (oB : B.all (·.oneCell') = true) (hO1 : O1.size = n1) (hO2 : O2.size = n2)
    (r1 : RW T1 w b1 A) (r2 : RW T2 w b2 B) (r3 : RW T1 w c1 O1) (r4 : RW T2 w c2 O2) (e1 : ¬ c2 = c1) (e2 : ¬ b2 = c1) (e3 : ¬ b1 = c1) (e4 : ¬ b1 = c2) (e5 : ¬ b2 = c2)
    (hc : ∀ W, Kept [] w W → Calls Tryd.prog F #[.agg A] W fun e w' => e = .returned (.agg D) ∧ Kept [] W w')
    (hx1 : a.eval (.tmp x1) = .pointer (some ⟨b1, 0, none⟩)) (hx2 : (a.put (some d1) (.agg A)).eval (.tmp x2) = .pointer (some ⟨b2, 0, none⟩))
    (hrun : ∀ W, (execOp ((a.put (some d1) (.agg A)).put (some d3) (.agg B)).eval { dst := some d2, op := .call { callee := .value (.func F), args := #[.tmp d1], argTypes := #[T1] }, type := T1, pos := p2, after := #[{ on := 0, ground := .data }], guard := none }).run Tryd.prog W = .ok (.enter F #[.agg A]) W)
    (hy1 : (((a.put (some d1) (.agg A)).put (some d3) (.agg B)).put (some d2) (.agg D)).eval (.tmp y1) = .pointer (some ⟨c1, 0, none⟩)) (hv1 : (((a.put (some d1) (.agg A)).put (some d3) (.agg B)).put (some d2) (.agg D)).eval (.tmp d2) = .agg D)
    (hy2 : (((a.put (some d1) (.agg A)).put (some d3) (.agg B)).put (some d2) (.agg D)).eval (.tmp y2) = .pointer (some ⟨c2, 0, none⟩)) (hv2 : (((a.put (some d1) (.agg A)).put (some d3) (.agg B)).put (some d2) (.agg D)).eval (.tmp d3) = .agg B)
    (h : ∀ W, Kept [] w W → Q .normal (((a.put (some d1) (.agg A)).put (some d3) (.agg B)).put (some d2) (.agg D)) ((W.setRow c1 D).setRow c2 B)) :
    (Code.region id (ret1c d1 d2 d3 x1 x2 y1 y2 F T1 T2 p1 p2 p3 p4 p5) true).wp Tryd.prog Q a w := by
  refine wp_region_held_drew (S := fun w' => RW T1 w' b1 A ∧ RW T2 w' b2 B ∧ (∃ O, RW T1 w' c1 O ∧ O.size = n1) ∧ (∃ O, RW T2 w' c2 O ∧ O.size = n2)) (by kernel_rfl) ⟨r1, r2, ⟨O1, r3, hO1⟩, ⟨O2, r4, hO2⟩⟩ (fun hS => ?_)
  refine wpAnyH_take (i := 0) (oi := { dst := some d1, op := .load T1 (.tmp x1), type := T1, pos := p1, after := #[], guard := none }) (v := .agg A) rfl (by kernel_rfl) f0 (by kernel_rfl) (fun _ _ _ h => hQ _ _ _ _ _ h) (yieldsIf_load_rw rfl T1 h1 (.tmp x1) rfl b1 hx1 A hA (fun _ h => h.1)) hS ?_
  refine wpAnyH_take (i := 2) (oi := { dst := some d3, op := .load T2 (.tmp x2), type := T2, pos := p3, after := #[{ on := 3, ground := .gcOnly .lateStores }], guard := none }) (v := .agg B) rfl (by kernel_rfl) f2 (by kernel_rfl) (fun _ _ _ h => hQ _ _ _ _ _ h) (yieldsIf_load_rw rfl T2 h2 (.tmp x2) rfl b2 hx2 B hB (fun _ h => h.2.1)) hS ?_
  refine wpAnyH_ready (rs := [1]) (by kernel_rfl) (by simp) ?_
  refine AllReadyH.cons (o := { dst := some d2, op := .call { callee := .value (.func F), args := #[.tmp d1], argTypes := #[T1] }, type := T1, pos := p2, after := #[{ on := 0, ground := .data }], guard := none }) rfl (fun K hK => ?_) AllReadyH.nil
  rw [if_pos (by rfl)]
  refine wp_calls F #[.agg A] (hrun _) (fun v W => v = .agg D ∧ Kept [] w W) ((hc w.drew (Kept.refl [] w).drew).mono fun e w' hh => ⟨_, hh.1, rfl, hh.2.undrew⟩) ?_
  rintro v W ⟨rfl, kW⟩
  have s1 := r1.kept kW (by simp)
  have s2 := r2.kept kW (by simp)
  have s3 := r3.kept kW (by simp)
  have s4 := r4.kept kW (by simp)
  refine hK.out _ _ ⟨s1, s2, ⟨O1, s3, hO1⟩, ⟨O2, s4, hO2⟩⟩ (fun hS0 => ?_)
  refine wpAnyH_ready (rs := [3]) (by kernel_rfl) (by simp) ?_
  refine AllReadyH.cons (o := { dst := none, op := .store T1 (.tmp y1) (.tmp d2), type := 0, pos := p4, after := #[{ on := 1, ground := .data }, { on := 1, ground := .chain }, { on := 0, ground := .phase }, { on := 1, ground := .phase }, { on := 2, ground := .textOnly .lateStores }], guard := none }) rfl (fun K hK => ?_) AllReadyH.nil
  rw [if_pos (by rfl)]
  refine wp_store_row T1 (.tmp y1) (.tmp d2) rfl c1 D hy1 hv1 T1 O1 s3 (by rw [h1.1, hD]) (by rw [hO1, hD]) oD ?_
  have s5 : RW T2 (W.setRow c1 D) c2 O2 := s4.rowOther D e1
  refine hK.out _ _ ⟨s1.rowOther D e3, s2.rowOther D e2, ⟨D, s3.row D, hD⟩, ⟨O2, s5, hO2⟩⟩ (fun hS2 => ?_)
  refine wpAnyH_ready (rs := [4]) (by kernel_rfl) (by simp) ?_
  refine AllReadyH.cons (o := { dst := none, op := .store T2 (.tmp y2) (.tmp d3), type := 0, pos := p5, after := #[{ on := 2, ground := .data }, { on := 3, ground := .chain }, { on := 0, ground := .phase }, { on := 1, ground := .phase }, { on := 2, ground := .phase }, { on := 3, ground := .phase }], guard := none }) rfl (fun K2 hK2 => ?_) AllReadyH.nil
  rw [if_pos (by rfl)]
  refine wp_store_row T2 (.tmp y2) (.tmp d3) rfl c2 B hy2 hv2 T2 O2 s5 (by rw [h2.1, hB]) (by rw [hO2, hB]) oB ?_
  refine hK2.out _ _ ⟨hS2.1.rowOther B e4, hS2.2.1.rowOther B e5, ⟨D, (s3.row D).rowOther B (fun e => e1 e.symm), hD⟩, ⟨B, s5.row B, hB⟩⟩ (fun _ => ?_)
  exact wpAnyH_done (by kernel_rfl) (h W kW) _
end K
end Go.Proofs.YtjbdaejkofkcpaaDoor
namespace Go.Proofs.YtjbdaejkofkcpaaDoor
open Go.RowKit (Grown Hid Below)
open Go.Deep
namespace K
set_option maxRecDepth 100000
/-- The document's help: its node, what comes next, the level, what was seen, whether it is done. -/
structure Rh where
  h : Int
  nx : Int
  lv : Int
  s : Int
  d : Bool
def rhA (t : Rh) : Array Value := #[.int .u64 t.h, .int .i64 t.nx, .int .i64 t.lv, .int .u64 t.s, .bool t.d]
def rhZ : Array Value := #[.int .u64 0, .int .i64 0, .int .i64 0, .int .u64 0, .bool false]
theorem isT_rh : IsT 42 5 := ⟨by kernel_rfl, _, Tryd.underlying42⟩
theorem rh_one (t : Rh) : (rhA t).all (·.oneCell') = true := by simp [rhA, Value.oneCell']
def Rh.down (t : Rh) : Rh := ⟨t.h, 1, t.lv - 1, t.s, decide (t.lv = 0)⟩
set_option maxHeartbeats 2000000 in
theorem rhdown_any (t : Rh) (w : World) (l0 : 0 ≤ t.lv) (l1 : t.lv ≤ 100) :
    Calls Tryd.prog 41 #[.agg (rhA t)] w fun e w' => e = .returned (.agg (rhA t.down)) ∧ Kept [] w w' := by
  obtain ⟨h, nx, lv, s, d⟩ := t
  have l0' : 0 ≤ lv := l0
  have l1' : lv ≤ 100 := l1
  clear l0 l1
  have e : rhA (Rh.mk h nx lv s d).down = #[.int .u64 h, .int .i64 1, .int .i64 (lv - 1), .int .u64 s, .bool (decide (lv = 0))] := rfl
  rw [e]; clear e
  unfold rhA
  by_cases z : lv = 0
  · subst z
    go_enter Tryd.func41, Tryd.ntmps41
    go_wp2
    exact bodyPost_ret (v := .agg #[.int .u64 h, .int .i64 1, .int .i64 (0 - 1), .int .u64 s, .bool (decide ((0 : Int) = 0))]) (by simp [results, Tryd.results41, go_sem]) rfl ⟨rfl, ((Kept.refl [] w).alloc _).alloc _⟩
  · have zb : (lv == 0) = false := by simp [z]
    have zd : decide (lv = 0) = false := decide_eq_false z
    rw [zd]
    have HZ := hidOf z
    clear z zd
    go_enter Tryd.func41, Tryd.ntmps41
    go_wp2
    exact bodyPost_ret (v := .agg #[.int .u64 h, .int .i64 1, .int .i64 (lv - 1), .int .u64 s, .bool false]) (by simp [results, Tryd.results41, go_sem]) rfl ⟨rfl, ((Kept.refl [] w).alloc _).alloc _⟩
/-- A region that ends as it should: what is known behind it is enough. -/
theorem region_key13 {P : Program} {id : Nat} {ops : Array Oper} {d : Bool} {Q : Exit → Act → World → Prop} {a : Act} {w : World} (R : Act → Act → World → Prop) (h1 : (Code.region id ops d).wp P (fun e a' w' => e = .normal ∧ R a a' w') a w) (h2 : ∀ a' w', R a a' w' → Q .normal a' w') : (Code.region id ops d).wp P Q a w :=
  Code.wp_mono (fun e a' w' h => by obtain ⟨rfl, h⟩ := h; exact h2 a' w' h) h1
/-- What is given back: the blocks of the results, behind both stores. -/
theorem fin4 {w W : World} {b g n : Nat} {c : Cfg} {cs : List Int} {cnt : Int} {a : Acc} {X M A B : Array Value} (R : R4 42 35 w W b X M rhZ rmZ) (V : Wv w g c n cs cnt a B W) :
    RW 42 ((W.setRow (b + 1 + 1) A).setRow (b + 1 + 1 + 1) B) (b + 1 + 1) A ∧ RW 35 ((W.setRow (b + 1 + 1) A).setRow (b + 1 + 1 + 1) B) (b + 1 + 1 + 1) B ∧ Wv w g c n cs cnt a B ((W.setRow (b + 1 + 1) A).setRow (b + 1 + 1 + 1) B) ∧ Kept [] w ((W.setRow (b + 1 + 1) A).setRow (b + 1 + 1 + 1) B) := by
  have k1 : Kept [b + 1 + 1] W (W.setRow (b + 1 + 1) A) := (Kept.refl _ _).setRow (Or.inl (by simp)) _
  have m1 : RW 35 (W.setRow (b + 1 + 1) A) (b + 1 + 1 + 1) rmZ := R.m'.rowOther _ (by omega)
  have k2 : Kept [b + 1 + 1 + 1] (W.setRow (b + 1 + 1) A) ((W.setRow (b + 1 + 1) A).setRow (b + 1 + 1 + 1) B) := (Kept.refl _ _).setRow (Or.inl (by simp)) _
  exact ⟨(R.c'.row _).rowOther _ (by omega), m1.row _, (V.one R.c' (by decide) k1).one m1 (by decide) k2, (R.k.setRow (Or.inr (by have := R.old; omega)) _).setRow (Or.inr (by have := R.old; omega)) _⟩
theorem r4_setc {w W : World} {b : Nat} {X X' M : Array Value} (R : R4 42 35 w W b X M rhZ rmZ) {W' : World} (h : RW 42 W' b X') (k : Kept [b] W W') : R4 42 35 w W' b X' M rhZ rmZ :=
  ⟨h, R.m.kept k (by simp), R.c'.kept k (by simp; omega), R.m'.kept k (by simp; omega), R.k.then k (by simp; have := R.old; omega), R.old⟩
set_option maxHeartbeats 8000000 in
theorem rhstep_done (t : Rh) (c : Cfg) (g : Nat) (cs : List Int) (cap : Nat) (cnt : Int) (a : Acc) (w : World) (hR : RowR w g cs cap) (_hl : cs.length ≤ 17592186044415) (_c0 : 0 ≤ cnt) (_c1 : cnt < 4611686018427387904) (_hh : isW t.h) (hd : t.d = true) :
    Calls Tryd.prog 14 #[.agg (rhA t), .agg (rmA c (some ⟨g, 0, none⟩) cs.length cap cnt a)] w fun e w' => ∃ B, e = .returned (.tuple #[.agg (rhA t), .agg B]) ∧ Wv w g c cs.length cs cnt a B w' ∧ Kept [] w w' := by
  obtain ⟨M, hM⟩ : ∃ M, M = rmA c (some ⟨g, 0, none⟩) cs.length cap cnt a := ⟨_, rfl⟩
  have hM3 : M[3]? = some (.int .i64 c.h) := by rw [hM]; rfl
  have hM15 : M.size = 15 := by rw [hM]; rfl
  have hMo : M.all (·.oneCell') = true := by rw [hM]; exact rm_one _ _ _ _ _ _
  have HV0 : Hid (Wv w g c cs.length cs cnt a M w) := hidOf ⟨g, cap, hM, Or.inl rfl, hR⟩
  rw [← hM]
  have HM := hidOf (And.intro hM15 (And.intro hMo hM3))
  skip
  clear hM hR
  obtain ⟨b, hb⟩ : ∃ b, b = w.heap.size := ⟨_, rfl⟩
  have ST := hidOf (R4.start 42 35 w (rhA t) M rhZ rmZ hb)
  generalize cs.length = n at *
  go_enter Tryd.func14, Tryd.ntmps14
  go_upto_region 1 with (fail)
  rw [← hb]
  refine gen_world (fun W => R4 42 35 w W b (rhA t) M rhZ rmZ) ST.out ?_
  clear ST hb
  rintro W RR
  have q4 := cell_of_blk RR.c (i := 4) (v := .bool t.d) rfl
  have q1 := cell_of_blk RR.c (i := 1) (v := .int .i64 t.nx) rfl
  rw [hd] at q4
  have HR := hidOf RR
  clear RR hM15 hMo
  go_upto_region 2 with (fail)
  have V0 := HV0.out.new HR.out.k
  refine wp_ret2 isT_rh isT_rm (by kernel_rfl) (by kernel_rfl) (fun _ _ _ _ _ h => h) b (b + 1) (b + 1 + 1) (b + 1 + 1 + 1) (rhA t) M rhZ rmZ rfl HM.out.1 (rh_one _) HM.out.2.1 rfl rfl HR.out.c HR.out.m HR.out.c' HR.out.m' (by omega) (by omega) (by omega) (by omega) (by omega) rfl rfl rfl rfl rfl rfl ?_
  simp only [Act.put, List.setIfInBounds_toArray, List.set_cons_zero, List.set_cons_succ]
  go_wp2
  have FF := fin4 (A := (rhA t)) (HR.out.new (Kept.refl [] _).drew) (V0.new (Kept.refl [] _).drew)
  exact bodyPost_ret (v := .tuple #[.agg (rhA t), .agg M]) (results_rw2 Tryd.results14 isT_rh isT_rm _ _ (b + 1 + 1) (b + 1 + 1 + 1) (rhA t) M rfl HM.out.1 rfl rfl FF.1 FF.2.1) rfl ⟨M, rfl, FF.2.2⟩

set_option maxHeartbeats 8000000 in
theorem rhstep_tall (t : Rh) (c : Cfg) (g : Nat) (cs : List Int) (cap : Nat) (cnt : Int) (a : Acc) (w : World) (hR : RowR w g cs cap) (hl : cs.length ≤ 17592186044415) (c0 : 0 ≤ cnt) (c1 : cnt < 4611686018427387904) (hh : isW t.h) (hd : t.d = false) (hn : t.nx = 0) (R : Rt c) (wd : Wds cs) :
    Calls Tryd.prog 14 #[.agg (rhA t), .agg (rmA c (some ⟨g, 0, none⟩) cs.length cap cnt a)] w fun e w' => ∃ B, e = .returned (.tuple #[.agg (rhA ⟨t.h, 1, tlV c (fd c cs (ixV t.h) 4), t.s, false⟩), .agg B]) ∧ Wv w g c cs.length cs (cnt + 1) (acV cs 1 (clV' c (ixV t.h) 4) (plainV t.h) 0 0) B w' ∧ Kept [] w w' := by
  have HC := hidOf (fun (W : World) (k : Kept [] w W) => rloadW c g cs cap cnt a t.h 4 W (hR.kept k (by simp)) hl hh c0 c1)
  have wV := fd_word (c := c) wd (ixV t.h) 4
  obtain ⟨V, hV⟩ : ∃ V, V = fd c cs (ixV t.h) 4 := ⟨_, rfl⟩
  rw [← hV] at HC wV ⊢
  clear hV
  have h0 := R.h0
  have h1 := R.h1
  have wr : IntKind.u64.wrap c.h = c.h := by rw [IntKind.wrap_u64]; omega
  unfold isW at wV
  generalize acV cs 1 (clV' c (ixV t.h) 4) (plainV t.h) 0 0 = AC at HC ⊢
  obtain ⟨CN, hCN⟩ : ∃ CN, CN = cnt + 1 := ⟨_, rfl⟩
  rw [← hCN] at HC ⊢
  clear hCN
  obtain ⟨TL, hTL⟩ : ∃ TL, TL = tlV c V := ⟨_, rfl⟩
  rw [← hTL]
  have HTL := hidOf hTL
  clear hTL
  obtain ⟨M, hM⟩ : ∃ M, M = rmA c (some ⟨g, 0, none⟩) cs.length cap cnt a := ⟨_, rfl⟩
  have hM3 : M[3]? = some (.int .i64 c.h) := by rw [hM]; rfl
  have hM15 : M.size = 15 := by rw [hM]; rfl
  have hMo : M.all (·.oneCell') = true := by rw [hM]; exact rm_one _ _ _ _ _ _
  have HV0 : Hid (Wv w g c cs.length cs cnt a M w) := hidOf ⟨g, cap, hM, Or.inl rfl, hR⟩
  rw [← hM]
  have HM := hidOf (And.intro hM15 (And.intro hMo hM3))
  rw [← hM] at HC
  clear hM hR hl hh
  obtain ⟨b, hb⟩ : ∃ b, b = w.heap.size := ⟨_, rfl⟩
  have ST := hidOf (R4.start 42 35 w (rhA t) M rhZ rmZ hb)
  generalize cs.length = n at *
  go_enter Tryd.func14, Tryd.ntmps14
  go_upto_region 1 with (fail)
  rw [← hb]
  refine gen_world (fun W => R4 42 35 w W b (rhA t) M rhZ rmZ) ST.out ?_
  clear ST hb
  rintro W RR
  have q4 := cell_of_blk RR.c (i := 4) (v := .bool t.d) rfl
  have q1 := cell_of_blk RR.c (i := 1) (v := .int .i64 t.nx) rfl
  rw [hd] at q4
  rw [hn] at q1
  have q0 := cell_of_blk RR.c (i := 0) (v := .int .u64 t.h) rfl
  have HR := hidOf RR
  clear RR hM15 hMo
  go_upto_region 4 with (fail)
  have RR := HR.out
  go_wp2_with (first | ((with_reducible change wpList _ _ _ (Oper.mk _ (Op.load 35 (Operand.tmp 3)) _ _ _ _ :: _) _ _); refine wpList_load_rw 35 isT_rm rfl (.tmp 3) rfl (b + 1) rfl M HM.out.1 RR.m ?_))
  refine (HC.out _ RR.k).mono ?_
  rintro e w2 ⟨B, rfl, VB, K2⟩
  have vB := VB.old (w := w) RR.k.size
  have HR2 := hidOf (RR.new K2)
  have sB := VB.size
  have oB := VB.allOne
  have HVB := hidOf vB
  have HB := hidOf (And.intro sB oB)
  clear RR HR VB vB K2 q4 q1 q0
  go_upto_region 5 with (first | ((with_reducible change wpList _ _ _ (Oper.mk _ (Op.store 35 (Operand.tmp 6) _) _ _ _ _ :: _) _ _); refine wpList_store_rw 35 isT_rm rfl (.tmp 6) (.tmp 24) rfl w2.heap.size B rfl rfl sB oB rmZ (RW.new _ _ rmZ) rfl ?_))
  obtain ⟨nb, hnb⟩ : ∃ nb, nb = w2.heap.size := ⟨_, rfl⟩
  rw [← hnb]
  refine gen_world (fun U => R4 42 35 w U b (rhA t) M rhZ rmZ ∧ RW 35 U nb B ∧ Wv w g c n cs CN AC B U ∧ b + 1 + 1 + 1 < nb) ?_ ?_
  · have k1 : Kept [] w2 (w2.alloc (.cells rmZ 35)) := (Kept.refl [] w2).alloc _
    have d1 := RW.new 35 w2 rmZ
    have k2 : Kept [w2.heap.size] (w2.alloc (.cells rmZ 35)) ((w2.alloc (.cells rmZ 35)).setRow w2.heap.size B) := (Kept.refl _ _).setRow (Or.inl (by simp)) _
    have k3 : Kept [] w2 ((w2.alloc (.cells rmZ 35)).setRow w2.heap.size B) := k1.setRow (Or.inr (Nat.le_refl _)) _
    rw [hnb]
    exact ⟨HR2.out.new k3, d1.row B, (HVB.out.new k1).one d1 (by decide) k2, by have := HR2.out.m'.lt; omega⟩
  clear hnb HR2 HVB sB oB
  rintro U ⟨RU, DU, VU, hnb⟩
  have HD := hidOf hd
  clear hd hn wd R hM3 c0 c1
  by_cases v0 : V < 1
  · have e : TL = 0 := HTL.out.trans (by unfold tlV; rw [if_pos v0]; rfl)
    subst e
    have v1 : V < c.h := by omega
    have v2 : V - 1 < 0 := by omega
    have p2 := cell_of_blk RU.c (i := 2) (v := .int .i64 t.lv) rfl
    have p1 := cell_of_blk RU.c (i := 1) (v := .int .i64 t.nx) rfl
    have p3 := cell_of_blk RU.m (i := 3) HM.out.2.2
    have hf := free_of_blk RU.c
    have HU := hidOf (And.intro RU (And.intro DU VU))
    clear RU DU VU
    go_upto_region 11 with (fail)
    refine gen_world (fun X => R4 42 35 w X b (rhA ⟨t.h, 1, 0, t.s, false⟩) M rhZ rmZ ∧ RW 35 X nb B ∧ Wv w g c n cs CN AC B X) ?_ ?_
    · have kb : ∀ Y, Kept [b] U Y → RW 42 Y b (rhA ⟨t.h, 1, 0, t.s, false⟩) → R4 42 35 w Y b (rhA ⟨t.h, 1, 0, t.s, false⟩) M rhZ rmZ ∧ RW 35 Y nb B ∧ Wv w g c n cs CN AC B Y := fun Y k h => ⟨r4_setc HU.out.1 h k, HU.out.2.1.kept k (by simp; omega), HU.out.2.2.one HU.out.1.c (by decide) k⟩
      refine kb _ ?_ ?_
      · exact ((((Kept.refl [b] U).setCell (Or.inl (by simp)) _).setCell (Or.inl (by simp)) _).setCell (Or.inl (by simp)) _).setCell (Or.inl (by simp)) _
      · have z := HU.out.1.c
        have y := ((((z.set 2 (.int .i64 (c.h - 1))).set 2 (.int .i64 (V - 1))).set 2 (.int .i64 0)).set 1 (.int .i64 1))
        rw [show rhA t = #[.int .u64 t.h, .int .i64 t.nx, .int .i64 t.lv, .int .u64 t.s, .bool false] by rw [← HD.out]; rfl] at y
        exact y
    clear HU p2 p1 p3 hf
    rintro X ⟨RX, DX, VX⟩
    refine wp_ret2 isT_rh isT_rm (by kernel_rfl) (by kernel_rfl) (fun _ _ _ _ _ h => h) b nb (b + 1 + 1) (b + 1 + 1 + 1) (rhA ⟨t.h, 1, 0, t.s, false⟩) B rhZ rmZ rfl HB.out.1 (rh_one _) HB.out.2 rfl rfl RX.c DX RX.c' RX.m' (by omega) (by omega) (by omega) (by omega) (by omega) rfl rfl rfl rfl rfl rfl ?_
    simp only [Act.put, List.setIfInBounds_toArray, List.set_cons_zero, List.set_cons_succ]
    go_wp2
    have FF := fin4 (A := (rhA ⟨t.h, 1, 0, t.s, false⟩)) (RX.new (Kept.refl [] _).drew) (VX.new (Kept.refl [] _).drew)
    exact bodyPost_ret (v := .tuple #[.agg (rhA ⟨t.h, 1, 0, t.s, false⟩), .agg B]) (results_rw2 Tryd.results14 isT_rh isT_rm _ _ (b + 1 + 1) (b + 1 + 1 + 1) (rhA ⟨t.h, 1, 0, t.s, false⟩) B rfl HB.out.1 rfl rfl FF.1 FF.2.1) rfl ⟨B, rfl, FF.2.2⟩
  · by_cases v1 : V < c.h
    · have e : TL = V - 1 := HTL.out.trans (by unfold tlV; rw [if_neg v0, if_neg (by omega)])
      subst e
      have v2 : ¬ V - 1 < 0 := by omega
      have p2 := cell_of_blk RU.c (i := 2) (v := .int .i64 t.lv) rfl
      have p1 := cell_of_blk RU.c (i := 1) (v := .int .i64 t.nx) rfl
      have p3 := cell_of_blk RU.m (i := 3) HM.out.2.2
      have hf := free_of_blk RU.c
      have HU := hidOf (And.intro RU (And.intro DU VU))
      clear RU DU VU
      go_upto_region 11 with (fail)
      refine gen_world (fun X => R4 42 35 w X b (rhA ⟨t.h, 1, V - 1, t.s, false⟩) M rhZ rmZ ∧ RW 35 X nb B ∧ Wv w g c n cs CN AC B X) ?_ ?_
      · have kb : ∀ Y, Kept [b] U Y → RW 42 Y b (rhA ⟨t.h, 1, V - 1, t.s, false⟩) → R4 42 35 w Y b (rhA ⟨t.h, 1, V - 1, t.s, false⟩) M rhZ rmZ ∧ RW 35 Y nb B ∧ Wv w g c n cs CN AC B Y := fun Y k h => ⟨r4_setc HU.out.1 h k, HU.out.2.1.kept k (by simp; omega), HU.out.2.2.one HU.out.1.c (by decide) k⟩
        refine kb _ ?_ ?_
        · exact (((Kept.refl [b] U).setCell (Or.inl (by simp)) _).setCell (Or.inl (by simp)) _).setCell (Or.inl (by simp)) _
        · have z := HU.out.1.c
          have y := (((z.set 2 (.int .i64 (c.h - 1))).set 2 (.int .i64 (V - 1))).set 1 (.int .i64 1))
          rw [show rhA t = #[.int .u64 t.h, .int .i64 t.nx, .int .i64 t.lv, .int .u64 t.s, .bool false] by rw [← HD.out]; rfl] at y
          exact y
      clear HU p2 p1 p3 hf
      rintro X ⟨RX, DX, VX⟩
      refine wp_ret2 isT_rh isT_rm (by kernel_rfl) (by kernel_rfl) (fun _ _ _ _ _ h => h) b nb (b + 1 + 1) (b + 1 + 1 + 1) (rhA ⟨t.h, 1, V - 1, t.s, false⟩) B rhZ rmZ rfl HB.out.1 (rh_one _) HB.out.2 rfl rfl RX.c DX RX.c' RX.m' (by omega) (by omega) (by omega) (by omega) (by omega) rfl rfl rfl rfl rfl rfl ?_
      simp only [Act.put, List.setIfInBounds_toArray, List.set_cons_zero, List.set_cons_succ]
      go_wp2
      have FF := fin4 (A := (rhA ⟨t.h, 1, V - 1, t.s, false⟩)) (RX.new (Kept.refl [] _).drew) (VX.new (Kept.refl [] _).drew)
      exact bodyPost_ret (v := .tuple #[.agg (rhA ⟨t.h, 1, V - 1, t.s, false⟩), .agg B]) (results_rw2 Tryd.results14 isT_rh isT_rm _ _ (b + 1 + 1) (b + 1 + 1 + 1) (rhA ⟨t.h, 1, V - 1, t.s, false⟩) B rfl HB.out.1 rfl rfl FF.1 FF.2.1) rfl ⟨B, rfl, FF.2.2⟩
    · have e : TL = c.h - 1 := HTL.out.trans (by
        unfold tlV; rw [if_neg v0]; split <;> omega)
      subst e
      have v2 : ¬ c.h - 1 < 0 := by omega
      have p2 := cell_of_blk RU.c (i := 2) (v := .int .i64 t.lv) rfl
      have p1 := cell_of_blk RU.c (i := 1) (v := .int .i64 t.nx) rfl
      have p3 := cell_of_blk RU.m (i := 3) HM.out.2.2
      have hf := free_of_blk RU.c
      have HU := hidOf (And.intro RU (And.intro DU VU))
      clear RU DU VU
      go_upto_region 11 with (fail)
      refine gen_world (fun X => R4 42 35 w X b (rhA ⟨t.h, 1, c.h - 1, t.s, false⟩) M rhZ rmZ ∧ RW 35 X nb B ∧ Wv w g c n cs CN AC B X) ?_ ?_
      · have kb : ∀ Y, Kept [b] U Y → RW 42 Y b (rhA ⟨t.h, 1, c.h - 1, t.s, false⟩) → R4 42 35 w Y b (rhA ⟨t.h, 1, c.h - 1, t.s, false⟩) M rhZ rmZ ∧ RW 35 Y nb B ∧ Wv w g c n cs CN AC B Y := fun Y k h => ⟨r4_setc HU.out.1 h k, HU.out.2.1.kept k (by simp; omega), HU.out.2.2.one HU.out.1.c (by decide) k⟩
        refine kb _ ?_ ?_
        · exact ((Kept.refl [b] U).setCell (Or.inl (by simp)) _).setCell (Or.inl (by simp)) _
        · have z := HU.out.1.c
          have y := ((z.set 2 (.int .i64 (c.h - 1))).set 1 (.int .i64 1))
          rw [show rhA t = #[.int .u64 t.h, .int .i64 t.nx, .int .i64 t.lv, .int .u64 t.s, .bool false] by rw [← HD.out]; rfl] at y
          exact y
      clear HU p2 p1 p3 hf
      rintro X ⟨RX, DX, VX⟩
      refine wp_ret2 isT_rh isT_rm (by kernel_rfl) (by kernel_rfl) (fun _ _ _ _ _ h => h) b nb (b + 1 + 1) (b + 1 + 1 + 1) (rhA ⟨t.h, 1, c.h - 1, t.s, false⟩) B rhZ rmZ rfl HB.out.1 (rh_one _) HB.out.2 rfl rfl RX.c DX RX.c' RX.m' (by omega) (by omega) (by omega) (by omega) (by omega) rfl rfl rfl rfl rfl rfl ?_
      simp only [Act.put, List.setIfInBounds_toArray, List.set_cons_zero, List.set_cons_succ]
      go_wp2
      have FF := fin4 (A := (rhA ⟨t.h, 1, c.h - 1, t.s, false⟩)) (RX.new (Kept.refl [] _).drew) (VX.new (Kept.refl [] _).drew)
      exact bodyPost_ret (v := .tuple #[.agg (rhA ⟨t.h, 1, c.h - 1, t.s, false⟩), .agg B]) (results_rw2 Tryd.results14 isT_rh isT_rm _ _ (b + 1 + 1) (b + 1 + 1 + 1) (rhA ⟨t.h, 1, c.h - 1, t.s, false⟩) B rfl HB.out.1 rfl rfl FF.1 FF.2.1) rfl ⟨B, rfl, FF.2.2⟩

set_option maxHeartbeats 8000000 in
theorem rhstep_next (t : Rh) (c : Cfg) (g : Nat) (cs : List Int) (cap : Nat) (cnt : Int) (a : Acc) (w : World) (hR : RowR w g cs cap) (hl : cs.length ≤ 17592186044415) (c0 : 0 ≤ cnt) (c1 : cnt < 4611686018427387904) (hh : isW t.h) (hd : t.d = false) (hn : t.nx = 1) (wd : Wds cs) (l0 : 0 ≤ t.lv) (l1 : t.lv ≤ 100) :
    Calls Tryd.prog 14 #[.agg (rhA t), .agg (rmA c (some ⟨g, 0, none⟩) cs.length cap cnt a)] w fun e w' => ∃ B, e = .returned (.tuple #[.agg (rhA (if mkB (fd c cs (ixV t.h) (6 + t.lv)) = true then t.down else ⟨t.h, 2, t.lv, fd c cs (ixV t.h) (6 + t.lv), false⟩)), .agg B]) ∧ Wv w g c cs.length cs (cnt + 1) (acV cs 1 (clV' c (ixV t.h) (6 + t.lv)) (plainV t.h) 0 0) B w' ∧ Kept [] w w' := by
  have HC := hidOf (fun (W : World) (k : Kept [] w W) => rloadW c g cs cap cnt a t.h (6 + t.lv) W (hR.kept k (by simp)) hl hh c0 c1)
  have wV := fd_word (c := c) wd (ixV t.h) (6 + t.lv)
  obtain ⟨V, hV⟩ : ∃ V, V = fd c cs (ixV t.h) (6 + t.lv) := ⟨_, rfl⟩
  rw [← hV] at HC wV ⊢
  clear hV
  have HMk := hidOf (fun W => rmarked_any V W wV.1 wV.2)
  have HGo := hidOf (fun W => rhdown_any t W l0 l1)
  have ew : IntKind.i64.wrap (6 + t.lv) = 6 + t.lv := by rw [IntKind.wrap_i64]; omega
  generalize acV cs 1 (clV' c (ixV t.h) (6 + t.lv)) (plainV t.h) 0 0 = AC at HC ⊢
  obtain ⟨CN, hCN⟩ : ∃ CN, CN = cnt + 1 := ⟨_, rfl⟩
  rw [← hCN] at HC ⊢
  clear hCN
  obtain ⟨RS, hRS⟩ : ∃ RS, RS = if mkB V = true then t.down else ⟨t.h, 2, t.lv, V, false⟩ := ⟨_, rfl⟩
  rw [← hRS]
  have HRS := hidOf hRS
  clear hRS
  obtain ⟨M, hM⟩ : ∃ M, M = rmA c (some ⟨g, 0, none⟩) cs.length cap cnt a := ⟨_, rfl⟩
  have hM3 : M[3]? = some (.int .i64 c.h) := by rw [hM]; rfl
  have hM15 : M.size = 15 := by rw [hM]; rfl
  have hMo : M.all (·.oneCell') = true := by rw [hM]; exact rm_one _ _ _ _ _ _
  have HV0 : Hid (Wv w g c cs.length cs cnt a M w) := hidOf ⟨g, cap, hM, Or.inl rfl, hR⟩
  rw [← hM]
  have HM := hidOf (And.intro hM15 (And.intro hMo hM3))
  rw [← hM] at HC
  clear hM hR hl hh
  obtain ⟨b, hb⟩ : ∃ b, b = w.heap.size := ⟨_, rfl⟩
  have ST := hidOf (R4.start 42 35 w (rhA t) M rhZ rmZ hb)
  generalize cs.length = n at *
  go_enter Tryd.func14, Tryd.ntmps14
  go_upto_region 1 with (fail)
  rw [← hb]
  refine gen_world (fun W => R4 42 35 w W b (rhA t) M rhZ rmZ) ST.out ?_
  clear ST hb
  rintro W RR
  have q4 := cell_of_blk RR.c (i := 4) (v := .bool t.d) rfl
  have q1 := cell_of_blk RR.c (i := 1) (v := .int .i64 t.nx) rfl
  rw [hd] at q4
  rw [hn] at q1
  have q0 := cell_of_blk RR.c (i := 0) (v := .int .u64 t.h) rfl
  have q2 := cell_of_blk RR.c (i := 2) (v := .int .i64 t.lv) rfl
  have HR := hidOf RR
  clear RR hM15 hMo
  go_upto_region 13 with (fail)
  have RR := HR.out
  go_wp2_with (first | ((with_reducible change wpList _ _ _ (Oper.mk _ (Op.load 35 (Operand.tmp 3)) _ _ _ _ :: _) _ _); refine wpList_load_rw 35 isT_rm rfl (.tmp 3) rfl (b + 1) rfl M HM.out.1 RR.m ?_))
  refine (HC.out _ RR.k).mono ?_
  rintro e w2 ⟨B, rfl, VB, K2⟩
  have vB := VB.old (w := w) RR.k.size
  have HR2 := hidOf (RR.new K2)
  have sB := VB.size
  have oB := VB.allOne
  have HVB := hidOf vB
  have HB := hidOf (And.intro sB oB)
  clear RR HR VB vB K2 q4 q1 q0 q2
  go_upto_region 14 with (first | ((with_reducible change wpList _ _ _ (Oper.mk _ (Op.store 35 (Operand.tmp 8) _) _ _ _ _ :: _) _ _); refine wpList_store_rw 35 isT_rm rfl (.tmp 8) (.tmp 59) rfl w2.heap.size B rfl rfl sB oB rmZ (RW.new _ _ rmZ) rfl ?_))
  obtain ⟨nb, hnb⟩ : ∃ nb, nb = w2.heap.size := ⟨_, rfl⟩
  rw [← hnb]
  refine gen_world (fun U => R4 42 35 w U b (rhA t) M rhZ rmZ ∧ RW 35 U nb B ∧ Wv w g c n cs CN AC B U ∧ b + 1 + 1 + 1 < nb) ?_ ?_
  · have k1 : Kept [] w2 (w2.alloc (.cells rmZ 35)) := (Kept.refl [] w2).alloc _
    have d1 := RW.new 35 w2 rmZ
    have k2 : Kept [w2.heap.size] (w2.alloc (.cells rmZ 35)) ((w2.alloc (.cells rmZ 35)).setRow w2.heap.size B) := (Kept.refl _ _).setRow (Or.inl (by simp)) _
    have k3 : Kept [] w2 ((w2.alloc (.cells rmZ 35)).setRow w2.heap.size B) := k1.setRow (Or.inr (Nat.le_refl _)) _
    rw [hnb]
    exact ⟨HR2.out.new k3, d1.row B, (HVB.out.new k1).one d1 (by decide) k2, by have := HR2.out.m'.lt; omega⟩
  clear hnb HR2 HVB sB oB
  rintro U ⟨RU, DU, VU, hnb⟩
  have HD := hidOf hd
  have HU := hidOf (And.intro RU (And.intro DU VU))
  clear RU DU VU hd hn wd hM3 c0 c1 ew
  obtain ⟨D, hD⟩ : ∃ D, mkB V = D := ⟨_, rfl⟩
  rw [hD] at HMk HRS
  clear hD
  cases D with
  | true =>
    have e : RS = t.down := HRS.out.trans (if_pos (by trivial))
    subst e
    go_wp2_with fail
    refine (HMk.out _).mono ?_
    rintro e w3 ⟨rfl, K3⟩
    have HU3 := hidOf (And.intro (HU.out.1.new K3) (And.intro (HU.out.2.1.kept K3 (by simp)) (HU.out.2.2.new K3)))
    clear HU K3 HMk
    go_upto_region 15 with (fail)
    refine wp_ret1c isT_rh isT_rm (by kernel_rfl) (by kernel_rfl) (fun _ _ _ _ _ h => h) b nb (b + 1 + 1) (b + 1 + 1 + 1) (rhA t) B (rhA t.down) rhZ rmZ rfl HB.out.1 rfl (rh_one _) HB.out.2 rfl rfl HU3.out.1.c HU3.out.2.1 HU3.out.1.c' HU3.out.1.m' (by omega) (by omega) (by omega) (by omega) (by omega) (fun W _ => HGo.out W) rfl rfl (fun _ => by kernel_rfl) rfl rfl rfl rfl ?_
    intro V KV
    simp only [Act.put, List.setIfInBounds_toArray, List.set_cons_zero, List.set_cons_succ]
    go_wp2
    have FF := fin4 (A := (rhA t.down)) (HU3.out.1.new KV) (HU3.out.2.2.new KV)
    exact bodyPost_ret (v := .tuple #[.agg (rhA t.down), .agg B]) (results_rw2 Tryd.results14 isT_rh isT_rm _ _ (b + 1 + 1) (b + 1 + 1 + 1) (rhA t.down) B rfl HB.out.1 rfl rfl FF.1 FF.2.1) rfl ⟨B, rfl, FF.2.2⟩
  | false =>
    have e : RS = ⟨t.h, 2, t.lv, V, false⟩ := HRS.out.trans (if_neg (by decide))
    subst e
    go_wp2_with fail
    refine (HMk.out _).mono ?_
    rintro e w3 ⟨rfl, K3⟩
    have HU3 := hidOf (And.intro (HU.out.1.new K3) (And.intro (HU.out.2.1.kept K3 (by simp)) (HU.out.2.2.new K3)))
    clear HU K3 HMk
    have p3 := cell_of_blk HU3.out.1.c (i := 3) (v := .int .u64 t.s) rfl
    have p1 := cell_of_blk HU3.out.1.c (i := 1) (v := .int .i64 t.nx) rfl
    have hf := free_of_blk HU3.out.1.c
    go_upto_region 18 with (fail)
    refine gen_world (fun X => R4 42 35 w X b (rhA ⟨t.h, 2, t.lv, V, false⟩) M rhZ rmZ ∧ RW 35 X nb B ∧ Wv w g c n cs CN AC B X) ?_ ?_
    · have kb : ∀ Y, Kept [b] w3 Y → RW 42 Y b (rhA ⟨t.h, 2, t.lv, V, false⟩) → R4 42 35 w Y b (rhA ⟨t.h, 2, t.lv, V, false⟩) M rhZ rmZ ∧ RW 35 Y nb B ∧ Wv w g c n cs CN AC B Y := fun Y k h => ⟨r4_setc HU3.out.1 h k, HU3.out.2.1.kept k (by simp; omega), HU3.out.2.2.one HU3.out.1.c (by decide) k⟩
      refine kb _ (((Kept.refl [b] w3).setCell (Or.inl (by simp)) _).setCell (Or.inl (by simp)) _) ?_
      have z := HU3.out.1.c
      have y := (z.set 3 (.int .u64 V)).set 1 (.int .i64 2)
      rw [show rhA t = #[.int .u64 t.h, .int .i64 t.nx, .int .i64 t.lv, .int .u64 t.s, .bool false] by rw [← HD.out]; rfl] at y
      exact y
    clear HU3 p3 p1 hf
    rintro X ⟨RX, DX, VX⟩
    refine wp_ret2 isT_rh isT_rm (by kernel_rfl) (by kernel_rfl) (fun _ _ _ _ _ h => h) b nb (b + 1 + 1) (b + 1 + 1 + 1) (rhA ⟨t.h, 2, t.lv, V, false⟩) B rhZ rmZ rfl HB.out.1 (rh_one _) HB.out.2 rfl rfl RX.c DX RX.c' RX.m' (by omega) (by omega) (by omega) (by omega) (by omega) rfl rfl rfl rfl rfl rfl ?_
    simp only [Act.put, List.setIfInBounds_toArray, List.set_cons_zero, List.set_cons_succ]
    go_wp2
    have FF := fin4 (A := (rhA ⟨t.h, 2, t.lv, V, false⟩)) (RX.new (Kept.refl [] _).drew) (VX.new (Kept.refl [] _).drew)
    exact bodyPost_ret (v := .tuple #[.agg (rhA ⟨t.h, 2, t.lv, V, false⟩), .agg B]) (results_rw2 Tryd.results14 isT_rh isT_rm _ _ (b + 1 + 1) (b + 1 + 1 + 1) (rhA ⟨t.h, 2, t.lv, V, false⟩) B rfl HB.out.1 rfl rfl FF.1 FF.2.1) rfl ⟨B, rfl, FF.2.2⟩

set_option maxHeartbeats 8000000 in
theorem rhstep_mark (t : Rh) (c : Cfg) (g : Nat) (cs : List Int) (cap : Nat) (cnt : Int) (a : Acc) (w : World) (hR : RowR w g cs cap) (hl : cs.length ≤ 17592186044415) (c0 : 0 ≤ cnt) (c1 : cnt < 4611686018427387904) (hh : isW t.h) (hd : t.d = false) (hn : t.nx = 2) (hs : isW t.s) (l0 : 0 ≤ t.lv) (l1 : t.lv ≤ 100) :
    Calls Tryd.prog 14 #[.agg (rhA t), .agg (rmA c (some ⟨g, 0, none⟩) cs.length cap cnt a)] w fun e w' => ∃ B, e = .returned (.tuple #[.agg (rhA (if (acV cs 3 (clV' c (ixV t.h) (6 + t.lv)) (plainV t.h) t.s (markV t.s)).d = true then t.down else ⟨t.h, 1, t.lv, t.s, false⟩)), .agg B]) ∧ Wv w g c cs.length (clV cs 3 (clV' c (ixV t.h) (6 + t.lv)) t.s (markV t.s)) (cnt + 1) (acV cs 3 (clV' c (ixV t.h) (6 + t.lv)) (plainV t.h) t.s (markV t.s)) B w' ∧ Kept [] w w' := by
  have HC := hidOf (fun (W : World) (k : Kept [] w W) => rswapW c g cs cap cnt a t.h (6 + t.lv) t.s (markV t.s) W (hR.kept k (by simp)) hl hh c0 c1)
  have HPl := hidOf (fun W => rmark_any t.s W hs.1 hs.2)
  have HGo := hidOf (fun W => rhdown_any t W l0 l1)
  have ew : IntKind.i64.wrap (6 + t.lv) = 6 + t.lv := by rw [IntKind.wrap_i64]; omega
  obtain ⟨sw, hsw⟩ : ∃ sw, sw = (acV cs 3 (clV' c (ixV t.h) (6 + t.lv)) (plainV t.h) t.s (markV t.s)).d := ⟨_, rfl⟩
  rw [← hsw] at HC ⊢
  clear hsw
  generalize (acV cs 3 (clV' c (ixV t.h) (6 + t.lv)) (plainV t.h) t.s (markV t.s)) = AC at HC ⊢
  generalize (clV cs 3 (clV' c (ixV t.h) (6 + t.lv)) t.s (markV t.s)) = CC at HC ⊢
  rw [← ew] at HC
  obtain ⟨CN, hCN⟩ : ∃ CN, CN = cnt + 1 := ⟨_, rfl⟩
  rw [← hCN] at HC ⊢
  clear hCN ew
  generalize markV t.s = P at HC HPl
  obtain ⟨RS, hRS⟩ : ∃ RS, RS = if sw = true then t.down else ⟨t.h, 1, t.lv, t.s, false⟩ := ⟨_, rfl⟩
  rw [← hRS]
  have HRS := hidOf hRS
  clear hRS
  obtain ⟨M, hM⟩ : ∃ M, M = rmA c (some ⟨g, 0, none⟩) cs.length cap cnt a := ⟨_, rfl⟩
  have hM3 : M[3]? = some (.int .i64 c.h) := by rw [hM]; rfl
  have hM15 : M.size = 15 := by rw [hM]; rfl
  have hMo : M.all (·.oneCell') = true := by rw [hM]; exact rm_one _ _ _ _ _ _
  have HV0 : Hid (Wv w g c cs.length cs cnt a M w) := hidOf ⟨g, cap, hM, Or.inl rfl, hR⟩
  rw [← hM]
  have HM := hidOf (And.intro hM15 (And.intro hMo hM3))
  rw [← hM] at HC
  clear hM hR hl hh
  obtain ⟨b, hb⟩ : ∃ b, b = w.heap.size := ⟨_, rfl⟩
  have ST := hidOf (R4.start 42 35 w (rhA t) M rhZ rmZ hb)
  generalize cs.length = n at *
  go_enter Tryd.func14, Tryd.ntmps14
  go_upto_region 1 with (fail)
  rw [← hb]
  refine gen_world (fun W => R4 42 35 w W b (rhA t) M rhZ rmZ) ST.out ?_
  clear ST hb
  rintro W RR
  have q4 := cell_of_blk RR.c (i := 4) (v := .bool t.d) rfl
  have q1 := cell_of_blk RR.c (i := 1) (v := .int .i64 t.nx) rfl
  rw [hd] at q4
  rw [hn] at q1
  have HR := hidOf RR
  clear RR hM15 hMo
  go_upto_region 19 with (fail)
  have Q1 : R4 42 35 w W.drew b (rhA t) M rhZ rmZ := HR.out.new (Kept.refl [] W).drew
  have HD := hidOf hd
  clear hd hn hM3 c0 c1 HR q4 q1
  refine region_key13 (fun a0 a' w' => ∃ d B, a' = (((((((((((((((((a0.put (some 72) (.agg M)).put (some 73) (.pointer (some ⟨b, 0, none⟩))).put (some 74) (.int .u64 t.h)).put (some 75) (.pointer (some ⟨b, 2, none⟩))).put (some 76) (.int .i64 t.lv)).put (some 77) (.int .i64 (IntKind.i64.wrap (6 + t.lv)))).put (some 78) (.pointer (some ⟨b, 3, none⟩))).put (some 79) (.int .u64 t.s)).put (some 80) (.pointer (some ⟨b, 3, none⟩))).put (some 81) (.int .u64 t.s)).put (some 82) (.int .u64 P)).put (some 83) (.tuple #[.agg B, .bool sw])).put (some 71) (.tuple #[.agg B, .bool sw])).put (some 84) (.agg B)).put (some 85) (.bool sw)).put (some 10) (.pointer (some ⟨d, 0, none⟩))).put (some 11) (.bool sw)) ∧ RW 35 w' d B ∧ R4 42 35 w w' b (rhA t) M rhZ rmZ ∧ Wv w g c n CC CN AC B w' ∧ b + 1 + 1 + 1 < d) ?_ ?_
  · refine wp_region_held_drew (S := fun w' => RW 42 w' b (rhA t) ∧ RW 35 w' (b + 1) M) (by kernel_rfl) ⟨Q1.c, Q1.m⟩ (fun hS => ?_)
    generalize W.drew = W1 at Q1 hS ⊢
    refine wpAnyH_take (i := 0) (oi := { dst := some 72, op := Op.load 35 (Operand.tmp 3), type := 35, pos := "ref.go:52", after := #[], guard := none }) (v := Value.agg M) rfl (by kernel_rfl) (by kernel_rfl) (by kernel_rfl) (fun _ _ _ h => nomatch h.1) (yieldsIf_load_rw rfl 35 isT_rm (.tmp 3) rfl (b + 1) rfl M HM.out.1 (fun _ h => h.2)) hS ?_
    try simp only [Act.put, List.setIfInBounds_toArray, List.set_cons_zero, List.set_cons_succ]
    refine wpAnyH_take (i := 1) (oi := { dst := some 73, op := Op.fieldAddr 42 (Operand.tmp 2) 0, type := 0, pos := "ref.go:52", after := #[], guard := none }) (v := Value.pointer (some ⟨b, 0, none⟩)) rfl (by kernel_rfl) (by kernel_rfl) (by kernel_rfl) (fun _ _ _ h => nomatch h.1) (Or.inl ⟨rfl, fun _ _ => by kernel_rfl⟩) hS ?_
    try simp only [Act.put, List.setIfInBounds_toArray, List.set_cons_zero, List.set_cons_succ]
    refine wpAnyH_take (i := 2) (oi := { dst := some 74, op := Op.load 25 (Operand.tmp 73), type := 25, pos := "ref.go:52", after := #[{ on := 1, ground := Ground.data }], guard := none }) (v := Value.int .u64 t.h) rfl (by kernel_rfl) (by kernel_rfl) (by kernel_rfl) (fun _ _ _ h => nomatch h.1) (Or.inl ⟨rfl, fun w hSw => by have z := cell_of_blk hSw.1 (i := 0) (v := .int .u64 t.h) rfl; go_simp⟩) hS ?_
    try simp only [Act.put, List.setIfInBounds_toArray, List.set_cons_zero, List.set_cons_succ]
    refine wpAnyH_take (i := 3) (oi := { dst := some 75, op := Op.fieldAddr 42 (Operand.tmp 2) 2, type := 0, pos := "ref.go:52", after := #[], guard := none }) (v := Value.pointer (some ⟨b, 2, none⟩)) rfl (by kernel_rfl) (by kernel_rfl) (by kernel_rfl) (fun _ _ _ h => nomatch h.1) (Or.inl ⟨rfl, fun _ _ => by kernel_rfl⟩) hS ?_
    try simp only [Act.put, List.setIfInBounds_toArray, List.set_cons_zero, List.set_cons_succ]
    refine wpAnyH_take (i := 4) (oi := { dst := some 76, op := Op.load 3 (Operand.tmp 75), type := 3, pos := "ref.go:52", after := #[{ on := 3, ground := Ground.data }], guard := none }) (v := Value.int .i64 t.lv) rfl (by kernel_rfl) (by kernel_rfl) (by kernel_rfl) (fun _ _ _ h => nomatch h.1) (Or.inl ⟨rfl, fun w hSw => by have z := cell_of_blk hSw.1 (i := 2) (v := .int .i64 t.lv) rfl; go_simp⟩) hS ?_
    try simp only [Act.put, List.setIfInBounds_toArray, List.set_cons_zero, List.set_cons_succ]
    refine wpAnyH_take (i := 5) (oi := { dst := some 77, op := Op.binOp BinOp.add 3 (Operand.const (Value.int IntKind.i64 6)) (Operand.tmp 76) 3, type := 3, pos := "ref.go:52", after := #[{ on := 4, ground := Ground.data }], guard := none }) (v := Value.int .i64 (IntKind.i64.wrap (6 + t.lv))) rfl (by kernel_rfl) (by kernel_rfl) (by kernel_rfl) (fun _ _ _ h => nomatch h.1) (Or.inl ⟨rfl, fun _ _ => by kernel_rfl⟩) hS ?_
    try simp only [Act.put, List.setIfInBounds_toArray, List.set_cons_zero, List.set_cons_succ]
    refine wpAnyH_take (i := 6) (oi := { dst := some 78, op := Op.fieldAddr 42 (Operand.tmp 2) 3, type := 0, pos := "ref.go:52", after := #[], guard := none }) (v := Value.pointer (some ⟨b, 3, none⟩)) rfl (by kernel_rfl) (by kernel_rfl) (by kernel_rfl) (fun _ _ _ h => nomatch h.1) (Or.inl ⟨rfl, fun _ _ => by kernel_rfl⟩) hS ?_
    try simp only [Act.put, List.setIfInBounds_toArray, List.set_cons_zero, List.set_cons_succ]
    refine wpAnyH_take (i := 7) (oi := { dst := some 79, op := Op.load 25 (Operand.tmp 78), type := 25, pos := "ref.go:52", after := #[{ on := 6, ground := Ground.data }], guard := none }) (v := Value.int .u64 t.s) rfl (by kernel_rfl) (by kernel_rfl) (by kernel_rfl) (fun _ _ _ h => nomatch h.1) (Or.inl ⟨rfl, fun w hSw => by have z := cell_of_blk hSw.1 (i := 3) (v := .int .u64 t.s) rfl; go_simp⟩) hS ?_
    try simp only [Act.put, List.setIfInBounds_toArray, List.set_cons_zero, List.set_cons_succ]
    refine wpAnyH_take (i := 8) (oi := { dst := some 80, op := Op.fieldAddr 42 (Operand.tmp 2) 3, type := 0, pos := "ref.go:52", after := #[], guard := none }) (v := Value.pointer (some ⟨b, 3, none⟩)) rfl (by kernel_rfl) (by kernel_rfl) (by kernel_rfl) (fun _ _ _ h => nomatch h.1) (Or.inl ⟨rfl, fun _ _ => by kernel_rfl⟩) hS ?_
    try simp only [Act.put, List.setIfInBounds_toArray, List.set_cons_zero, List.set_cons_succ]
    refine wpAnyH_take (i := 9) (oi := { dst := some 81, op := Op.load 25 (Operand.tmp 80), type := 25, pos := "ref.go:52", after := #[{ on := 8, ground := Ground.data }], guard := none }) (v := Value.int .u64 t.s) rfl (by kernel_rfl) (by kernel_rfl) (by kernel_rfl) (fun _ _ _ h => nomatch h.1) (Or.inl ⟨rfl, fun w hSw => by have z := cell_of_blk hSw.1 (i := 3) (v := .int .u64 t.s) rfl; go_simp⟩) hS ?_
    try simp only [Act.put, List.setIfInBounds_toArray, List.set_cons_zero, List.set_cons_succ]
    refine wpAnyH_ready (rs := [10, 15]) (by kernel_rfl) (by simp) ?_
    refine AllReadyH.cons (o := { dst := some 82, op := Op.call { callee := Callee.value (Operand.func 43), args := #[Operand.tmp 81], argTypes := #[25] }, type := 25, pos := "ref.go:52", after := #[{ on := 9, ground := Ground.data }], guard := none }) rfl (fun K hK => ?_) ?_
    · rw [if_pos (by rfl)]
      refine wp_calls 43 #[.int .u64 t.s] (by kernel_rfl) (fun v V => v = .int .u64 P ∧ Kept [] W1 V) ((HPl.out _).mono fun e w' hh => ⟨_, hh.1, rfl, hh.2⟩) ?_
      rintro _ x1 ⟨rfl, K1⟩
      have q2 := Q1.new K1
      try simp only [Act.put, List.setIfInBounds_toArray, List.set_cons_zero, List.set_cons_succ]
      refine hK.out _ _ (⟨q2.c, q2.m⟩) (fun hS => ?_)
      clear hK K
      refine wpAnyH_ready (rs := [11, 15]) (by kernel_rfl) (by simp) ?_
      refine AllReadyH.cons (o := { dst := some 83, op := Op.call { callee := Callee.value (Operand.func 42), args := #[Operand.tmp 72, Operand.tmp 74, Operand.tmp 77, Operand.tmp 79, Operand.tmp 82], argTypes := #[35, 25, 3, 25, 25] }, type := 94, pos := "ref.go:52", after := #[{ on := 0, ground := Ground.data }, { on := 2, ground := Ground.data }, { on := 5, ground := Ground.data }, { on := 7, ground := Ground.data }, { on := 10, ground := Ground.data }, { on := 10, ground := Ground.chain }], guard := none }) rfl (fun K hK => ?_) ?_
      · rw [if_pos (by rfl)]
        refine wp_calls 42 #[.agg M, .int .u64 t.h, .int .i64 (IntKind.i64.wrap (6 + t.lv)), .int .u64 t.s, .int .u64 P] (by kernel_rfl) (fun v V => ∃ B, v = .tuple #[.agg B, .bool sw] ∧ Wv x1 g c n CC CN AC B V ∧ Kept [] x1 V) ((HC.out _ q2.k).mono fun e w' ⟨B, h1, h2, h3⟩ => ⟨_, h1, B, rfl, h2, h3⟩) ?_
        rintro _ x3 ⟨B, rfl, V3, K3⟩
        have v3 := V3.old (w := w) q2.k.size
        have q4 := q2.new K3
        try simp only [Act.put, List.setIfInBounds_toArray, List.set_cons_zero, List.set_cons_succ]
        refine hK.out _ _ (⟨q4.c, q4.m⟩) (fun hS => ?_)
        clear hK K
        refine wpAnyH_take (i := 12) (oi := { dst := some 71, op := Op.move (Operand.tmp 83), type := 94, pos := "ref.go:52", after := #[{ on := 11, ground := Ground.data }], guard := none }) (v := Value.tuple #[.agg B, .bool sw]) rfl (by kernel_rfl) (by kernel_rfl) (by kernel_rfl) (fun _ _ _ h => nomatch h.1) (Or.inl ⟨rfl, fun _ _ => by kernel_rfl⟩) hS ?_
        try simp only [Act.put, List.setIfInBounds_toArray, List.set_cons_zero, List.set_cons_succ]
        refine wpAnyH_take (i := 13) (oi := { dst := some 84, op := Op.extract (Operand.tmp 71) 0, type := 35, pos := "ref.go:52", after := #[{ on := 12, ground := Ground.data }], guard := none }) (v := Value.agg B) rfl (by kernel_rfl) (by kernel_rfl) (by kernel_rfl) (fun _ _ _ h => nomatch h.1) (Or.inl ⟨rfl, fun _ _ => by kernel_rfl⟩) hS ?_
        try simp only [Act.put, List.setIfInBounds_toArray, List.set_cons_zero, List.set_cons_succ]
        refine wpAnyH_take (i := 14) (oi := { dst := some 85, op := Op.extract (Operand.tmp 71) 1, type := 4, pos := "ref.go:52", after := #[{ on := 12, ground := Ground.data }, { on := 16, ground := Ground.gcOnly Departure.lateStores }], guard := none }) (v := Value.bool sw) rfl (by kernel_rfl) (by kernel_rfl) (by kernel_rfl) (fun _ _ _ h => nomatch h.1) (Or.inl ⟨rfl, fun _ _ => by kernel_rfl⟩) hS ?_
        try simp only [Act.put, List.setIfInBounds_toArray, List.set_cons_zero, List.set_cons_succ]
        refine wpAnyH_ready (rs := [15]) (by kernel_rfl) (by simp) ?_
        refine AllReadyH.cons (o := { dst := some 10, op := Op.alloc 35, type := 0, pos := "ref.go:52", after := #[], guard := none }) rfl (fun K hK => ?_) AllReadyH.nil
        rw [if_pos (by rfl)]
        refine wp_alloc_any 35 rmZ (by kernel_rfl) ?_
        intro d x5 D5 l5 K5
        have hd1 : b + 1 + 1 + 1 < d := by have := q4.m'.lt; omega
        have q6 := q4.new K5
        have v6 := v3.new K5
        try simp only [Act.put, List.setIfInBounds_toArray, List.set_cons_zero, List.set_cons_succ]
        refine hK.out _ _ (⟨q6.c, q6.m⟩) (fun hS => ?_)
        clear hK K
        refine wpAnyH_ready (rs := [16]) (by kernel_rfl) (by simp) ?_
        refine AllReadyH.cons (o := { dst := none, op := Op.store 35 (Operand.tmp 10) (Operand.tmp 84), type := 0, pos := "ref.go:52", after := #[{ on := 15, ground := Ground.data }, { on := 13, ground := Ground.data }, { on := 11, ground := Ground.chain }, { on := 0, ground := Ground.phase }, { on := 1, ground := Ground.phase }, { on := 2, ground := Ground.phase }, { on := 3, ground := Ground.phase }, { on := 4, ground := Ground.phase }, { on := 5, ground := Ground.phase }, { on := 6, ground := Ground.phase }, { on := 7, ground := Ground.phase }, { on := 8, ground := Ground.phase }, { on := 9, ground := Ground.phase }, { on := 10, ground := Ground.phase }, { on := 11, ground := Ground.phase }, { on := 12, ground := Ground.phase }, { on := 13, ground := Ground.phase }, { on := 14, ground := Ground.textOnly Departure.lateStores }, { on := 15, ground := Ground.phase }], guard := none }) rfl (fun K hK => ?_) AllReadyH.nil
        rw [if_pos (by rfl)]
        have sB := v6.size
        have oB := v6.allOne
        refine wp_store_row 35 (.tmp 10) (.tmp 84) rfl d B rfl rfl 35 rmZ D5 (by rw [isT_rm.1, sB]) (by rw [sB]; rfl) oB ?_
        simp only [Act.put]
        refine hK.out _ _ (⟨q6.c.rowOther B (c := d) (by omega), q6.m.rowOther B (c := d) (by omega)⟩) (fun hS => ?_)
        clear hK K
        refine wpAnyH_take (i := 17) (oi := { dst := some 11, op := Op.assign (Operand.tmp 85), type := 4, pos := "ref.go:52", after := #[{ on := 14, ground := Ground.data }, { on := 16, ground := Ground.chain }, { on := 0, ground := Ground.phase }, { on := 1, ground := Ground.phase }, { on := 2, ground := Ground.phase }, { on := 3, ground := Ground.phase }, { on := 4, ground := Ground.phase }, { on := 5, ground := Ground.phase }, { on := 6, ground := Ground.phase }, { on := 7, ground := Ground.phase }, { on := 8, ground := Ground.phase }, { on := 9, ground := Ground.phase }, { on := 10, ground := Ground.phase }, { on := 11, ground := Ground.phase }, { on := 12, ground := Ground.phase }, { on := 13, ground := Ground.phase }, { on := 14, ground := Ground.phase }, { on := 15, ground := Ground.phase }, { on := 16, ground := Ground.phase }], guard := none }) (v := Value.bool sw) rfl (by kernel_rfl) (by kernel_rfl) (by kernel_rfl) (fun _ _ _ h => nomatch h.1) (Or.inl ⟨rfl, fun _ _ => by kernel_rfl⟩) hS ?_
        try simp only [Act.put, List.setIfInBounds_toArray, List.set_cons_zero, List.set_cons_succ]
        refine wpAnyH_done (by kernel_rfl) ?_ _
        have DF := D5.row B
        have kd : Kept [d] x5 (x5.setRow d B) := (Kept.refl [d] _).setRow (Or.inl (by simp)) B
        exact ⟨rfl, d, B, rfl, DF, ⟨q6.c.rowOther B (by omega), q6.m.rowOther B (by omega), q6.c'.rowOther B (by omega), q6.m'.rowOther B (by omega), q6.k.setRow (Or.inr (by have := q6.old; omega)) B, q6.old⟩, v6.one D5 (by decide) kd, hd1⟩
      refine AllReadyH.cons (o := { dst := some 10, op := Op.alloc 35, type := 0, pos := "ref.go:52", after := #[], guard := none }) rfl (fun K hK => ?_) AllReadyH.nil
      rw [if_pos (by rfl)]
      refine wp_alloc_any 35 rmZ (by kernel_rfl) ?_
      intro d x7 D7 l7 K7
      have hd1 : b + 1 + 1 + 1 < d := by have := q2.m'.lt; omega
      have q8 := q2.new K7
      try simp only [Act.put, List.setIfInBounds_toArray, List.set_cons_zero, List.set_cons_succ]
      refine hK.out _ _ (⟨q8.c, q8.m⟩) (fun hS => ?_)
      clear hK K
      refine wpAnyH_ready (rs := [11]) (by kernel_rfl) (by simp) ?_
      refine AllReadyH.cons (o := { dst := some 83, op := Op.call { callee := Callee.value (Operand.func 42), args := #[Operand.tmp 72, Operand.tmp 74, Operand.tmp 77, Operand.tmp 79, Operand.tmp 82], argTypes := #[35, 25, 3, 25, 25] }, type := 94, pos := "ref.go:52", after := #[{ on := 0, ground := Ground.data }, { on := 2, ground := Ground.data }, { on := 5, ground := Ground.data }, { on := 7, ground := Ground.data }, { on := 10, ground := Ground.data }, { on := 10, ground := Ground.chain }], guard := none }) rfl (fun K hK => ?_) AllReadyH.nil
      rw [if_pos (by rfl)]
      refine wp_calls 42 #[.agg M, .int .u64 t.h, .int .i64 (IntKind.i64.wrap (6 + t.lv)), .int .u64 t.s, .int .u64 P] (by kernel_rfl) (fun v V => ∃ B, v = .tuple #[.agg B, .bool sw] ∧ Wv x7 g c n CC CN AC B V ∧ Kept [] x7 V) ((HC.out _ q8.k).mono fun e w' ⟨B, h1, h2, h3⟩ => ⟨_, h1, B, rfl, h2, h3⟩) ?_
      rintro _ x9 ⟨B, rfl, V9, K9⟩
      have v9 := V9.old (w := w) q8.k.size
      have q10 := q8.new K9
      have D10 := D7.kept K9 (by simp)
      try simp only [Act.put, List.setIfInBounds_toArray, List.set_cons_zero, List.set_cons_succ]
      refine hK.out _ _ (⟨q10.c, q10.m⟩) (fun hS => ?_)
      clear hK K
      refine wpAnyH_take (i := 12) (oi := { dst := some 71, op := Op.move (Operand.tmp 83), type := 94, pos := "ref.go:52", after := #[{ on := 11, ground := Ground.data }], guard := none }) (v := Value.tuple #[.agg B, .bool sw]) rfl (by kernel_rfl) (by kernel_rfl) (by kernel_rfl) (fun _ _ _ h => nomatch h.1) (Or.inl ⟨rfl, fun _ _ => by kernel_rfl⟩) hS ?_
      try simp only [Act.put, List.setIfInBounds_toArray, List.set_cons_zero, List.set_cons_succ]
      refine wpAnyH_take (i := 13) (oi := { dst := some 84, op := Op.extract (Operand.tmp 71) 0, type := 35, pos := "ref.go:52", after := #[{ on := 12, ground := Ground.data }], guard := none }) (v := Value.agg B) rfl (by kernel_rfl) (by kernel_rfl) (by kernel_rfl) (fun _ _ _ h => nomatch h.1) (Or.inl ⟨rfl, fun _ _ => by kernel_rfl⟩) hS ?_
      try simp only [Act.put, List.setIfInBounds_toArray, List.set_cons_zero, List.set_cons_succ]
      refine wpAnyH_take (i := 14) (oi := { dst := some 85, op := Op.extract (Operand.tmp 71) 1, type := 4, pos := "ref.go:52", after := #[{ on := 12, ground := Ground.data }, { on := 16, ground := Ground.gcOnly Departure.lateStores }], guard := none }) (v := Value.bool sw) rfl (by kernel_rfl) (by kernel_rfl) (by kernel_rfl) (fun _ _ _ h => nomatch h.1) (Or.inl ⟨rfl, fun _ _ => by kernel_rfl⟩) hS ?_
      try simp only [Act.put, List.setIfInBounds_toArray, List.set_cons_zero, List.set_cons_succ]
      refine wpAnyH_ready (rs := [16]) (by kernel_rfl) (by simp) ?_
      refine AllReadyH.cons (o := { dst := none, op := Op.store 35 (Operand.tmp 10) (Operand.tmp 84), type := 0, pos := "ref.go:52", after := #[{ on := 15, ground := Ground.data }, { on := 13, ground := Ground.data }, { on := 11, ground := Ground.chain }, { on := 0, ground := Ground.phase }, { on := 1, ground := Ground.phase }, { on := 2, ground := Ground.phase }, { on := 3, ground := Ground.phase }, { on := 4, ground := Ground.phase }, { on := 5, ground := Ground.phase }, { on := 6, ground := Ground.phase }, { on := 7, ground := Ground.phase }, { on := 8, ground := Ground.phase }, { on := 9, ground := Ground.phase }, { on := 10, ground := Ground.phase }, { on := 11, ground := Ground.phase }, { on := 12, ground := Ground.phase }, { on := 13, ground := Ground.phase }, { on := 14, ground := Ground.textOnly Departure.lateStores }, { on := 15, ground := Ground.phase }], guard := none }) rfl (fun K hK => ?_) AllReadyH.nil
      rw [if_pos (by rfl)]
      have sB := v9.size
      have oB := v9.allOne
      refine wp_store_row 35 (.tmp 10) (.tmp 84) rfl d B rfl rfl 35 rmZ D10 (by rw [isT_rm.1, sB]) (by rw [sB]; rfl) oB ?_
      simp only [Act.put]
      refine hK.out _ _ (⟨q10.c.rowOther B (c := d) (by omega), q10.m.rowOther B (c := d) (by omega)⟩) (fun hS => ?_)
      clear hK K
      refine wpAnyH_take (i := 17) (oi := { dst := some 11, op := Op.assign (Operand.tmp 85), type := 4, pos := "ref.go:52", after := #[{ on := 14, ground := Ground.data }, { on := 16, ground := Ground.chain }, { on := 0, ground := Ground.phase }, { on := 1, ground := Ground.phase }, { on := 2, ground := Ground.phase }, { on := 3, ground := Ground.phase }, { on := 4, ground := Ground.phase }, { on := 5, ground := Ground.phase }, { on := 6, ground := Ground.phase }, { on := 7, ground := Ground.phase }, { on := 8, ground := Ground.phase }, { on := 9, ground := Ground.phase }, { on := 10, ground := Ground.phase }, { on := 11, ground := Ground.phase }, { on := 12, ground := Ground.phase }, { on := 13, ground := Ground.phase }, { on := 14, ground := Ground.phase }, { on := 15, ground := Ground.phase }, { on := 16, ground := Ground.phase }], guard := none }) (v := Value.bool sw) rfl (by kernel_rfl) (by kernel_rfl) (by kernel_rfl) (fun _ _ _ h => nomatch h.1) (Or.inl ⟨rfl, fun _ _ => by kernel_rfl⟩) hS ?_
      try simp only [Act.put, List.setIfInBounds_toArray, List.set_cons_zero, List.set_cons_succ]
      refine wpAnyH_done (by kernel_rfl) ?_ _
      have DF := D10.row B
      have kd : Kept [d] x9 (x9.setRow d B) := (Kept.refl [d] _).setRow (Or.inl (by simp)) B
      exact ⟨rfl, d, B, rfl, DF, ⟨q10.c.rowOther B (by omega), q10.m.rowOther B (by omega), q10.c'.rowOther B (by omega), q10.m'.rowOther B (by omega), q10.k.setRow (Or.inr (by have := q10.old; omega)) B, q10.old⟩, v9.one D10 (by decide) kd, hd1⟩
    refine AllReadyH.cons (o := { dst := some 10, op := Op.alloc 35, type := 0, pos := "ref.go:52", after := #[], guard := none }) rfl (fun K hK => ?_) AllReadyH.nil
    rw [if_pos (by rfl)]
    refine wp_alloc_any 35 rmZ (by kernel_rfl) ?_
    intro d x11 D11 l11 K11
    have hd1 : b + 1 + 1 + 1 < d := by have := Q1.m'.lt; omega
    have q12 := Q1.new K11
    try simp only [Act.put, List.setIfInBounds_toArray, List.set_cons_zero, List.set_cons_succ]
    refine hK.out _ _ (⟨q12.c, q12.m⟩) (fun hS => ?_)
    clear hK K
    refine wpAnyH_ready (rs := [10]) (by kernel_rfl) (by simp) ?_
    refine AllReadyH.cons (o := { dst := some 82, op := Op.call { callee := Callee.value (Operand.func 43), args := #[Operand.tmp 81], argTypes := #[25] }, type := 25, pos := "ref.go:52", after := #[{ on := 9, ground := Ground.data }], guard := none }) rfl (fun K hK => ?_) AllReadyH.nil
    rw [if_pos (by rfl)]
    refine wp_calls 43 #[.int .u64 t.s] (by kernel_rfl) (fun v V => v = .int .u64 P ∧ Kept [] x11 V) ((HPl.out _).mono fun e w' hh => ⟨_, hh.1, rfl, hh.2⟩) ?_
    rintro _ x13 ⟨rfl, K13⟩
    have q14 := q12.new K13
    have D14 := D11.kept K13 (by simp)
    try simp only [Act.put, List.setIfInBounds_toArray, List.set_cons_zero, List.set_cons_succ]
    refine hK.out _ _ (⟨q14.c, q14.m⟩) (fun hS => ?_)
    clear hK K
    refine wpAnyH_ready (rs := [11]) (by kernel_rfl) (by simp) ?_
    refine AllReadyH.cons (o := { dst := some 83, op := Op.call { callee := Callee.value (Operand.func 42), args := #[Operand.tmp 72, Operand.tmp 74, Operand.tmp 77, Operand.tmp 79, Operand.tmp 82], argTypes := #[35, 25, 3, 25, 25] }, type := 94, pos := "ref.go:52", after := #[{ on := 0, ground := Ground.data }, { on := 2, ground := Ground.data }, { on := 5, ground := Ground.data }, { on := 7, ground := Ground.data }, { on := 10, ground := Ground.data }, { on := 10, ground := Ground.chain }], guard := none }) rfl (fun K hK => ?_) AllReadyH.nil
    rw [if_pos (by rfl)]
    refine wp_calls 42 #[.agg M, .int .u64 t.h, .int .i64 (IntKind.i64.wrap (6 + t.lv)), .int .u64 t.s, .int .u64 P] (by kernel_rfl) (fun v V => ∃ B, v = .tuple #[.agg B, .bool sw] ∧ Wv x13 g c n CC CN AC B V ∧ Kept [] x13 V) ((HC.out _ q14.k).mono fun e w' ⟨B, h1, h2, h3⟩ => ⟨_, h1, B, rfl, h2, h3⟩) ?_
    rintro _ x15 ⟨B, rfl, V15, K15⟩
    have v15 := V15.old (w := w) q14.k.size
    have q16 := q14.new K15
    have D16 := D14.kept K15 (by simp)
    try simp only [Act.put, List.setIfInBounds_toArray, List.set_cons_zero, List.set_cons_succ]
    refine hK.out _ _ (⟨q16.c, q16.m⟩) (fun hS => ?_)
    clear hK K
    refine wpAnyH_take (i := 12) (oi := { dst := some 71, op := Op.move (Operand.tmp 83), type := 94, pos := "ref.go:52", after := #[{ on := 11, ground := Ground.data }], guard := none }) (v := Value.tuple #[.agg B, .bool sw]) rfl (by kernel_rfl) (by kernel_rfl) (by kernel_rfl) (fun _ _ _ h => nomatch h.1) (Or.inl ⟨rfl, fun _ _ => by kernel_rfl⟩) hS ?_
    try simp only [Act.put, List.setIfInBounds_toArray, List.set_cons_zero, List.set_cons_succ]
    refine wpAnyH_take (i := 13) (oi := { dst := some 84, op := Op.extract (Operand.tmp 71) 0, type := 35, pos := "ref.go:52", after := #[{ on := 12, ground := Ground.data }], guard := none }) (v := Value.agg B) rfl (by kernel_rfl) (by kernel_rfl) (by kernel_rfl) (fun _ _ _ h => nomatch h.1) (Or.inl ⟨rfl, fun _ _ => by kernel_rfl⟩) hS ?_
    try simp only [Act.put, List.setIfInBounds_toArray, List.set_cons_zero, List.set_cons_succ]
    refine wpAnyH_take (i := 14) (oi := { dst := some 85, op := Op.extract (Operand.tmp 71) 1, type := 4, pos := "ref.go:52", after := #[{ on := 12, ground := Ground.data }, { on := 16, ground := Ground.gcOnly Departure.lateStores }], guard := none }) (v := Value.bool sw) rfl (by kernel_rfl) (by kernel_rfl) (by kernel_rfl) (fun _ _ _ h => nomatch h.1) (Or.inl ⟨rfl, fun _ _ => by kernel_rfl⟩) hS ?_
    try simp only [Act.put, List.setIfInBounds_toArray, List.set_cons_zero, List.set_cons_succ]
    refine wpAnyH_ready (rs := [16]) (by kernel_rfl) (by simp) ?_
    refine AllReadyH.cons (o := { dst := none, op := Op.store 35 (Operand.tmp 10) (Operand.tmp 84), type := 0, pos := "ref.go:52", after := #[{ on := 15, ground := Ground.data }, { on := 13, ground := Ground.data }, { on := 11, ground := Ground.chain }, { on := 0, ground := Ground.phase }, { on := 1, ground := Ground.phase }, { on := 2, ground := Ground.phase }, { on := 3, ground := Ground.phase }, { on := 4, ground := Ground.phase }, { on := 5, ground := Ground.phase }, { on := 6, ground := Ground.phase }, { on := 7, ground := Ground.phase }, { on := 8, ground := Ground.phase }, { on := 9, ground := Ground.phase }, { on := 10, ground := Ground.phase }, { on := 11, ground := Ground.phase }, { on := 12, ground := Ground.phase }, { on := 13, ground := Ground.phase }, { on := 14, ground := Ground.textOnly Departure.lateStores }, { on := 15, ground := Ground.phase }], guard := none }) rfl (fun K hK => ?_) AllReadyH.nil
    rw [if_pos (by rfl)]
    have sB := v15.size
    have oB := v15.allOne
    refine wp_store_row 35 (.tmp 10) (.tmp 84) rfl d B rfl rfl 35 rmZ D16 (by rw [isT_rm.1, sB]) (by rw [sB]; rfl) oB ?_
    simp only [Act.put]
    refine hK.out _ _ (⟨q16.c.rowOther B (c := d) (by omega), q16.m.rowOther B (c := d) (by omega)⟩) (fun hS => ?_)
    clear hK K
    refine wpAnyH_take (i := 17) (oi := { dst := some 11, op := Op.assign (Operand.tmp 85), type := 4, pos := "ref.go:52", after := #[{ on := 14, ground := Ground.data }, { on := 16, ground := Ground.chain }, { on := 0, ground := Ground.phase }, { on := 1, ground := Ground.phase }, { on := 2, ground := Ground.phase }, { on := 3, ground := Ground.phase }, { on := 4, ground := Ground.phase }, { on := 5, ground := Ground.phase }, { on := 6, ground := Ground.phase }, { on := 7, ground := Ground.phase }, { on := 8, ground := Ground.phase }, { on := 9, ground := Ground.phase }, { on := 10, ground := Ground.phase }, { on := 11, ground := Ground.phase }, { on := 12, ground := Ground.phase }, { on := 13, ground := Ground.phase }, { on := 14, ground := Ground.phase }, { on := 15, ground := Ground.phase }, { on := 16, ground := Ground.phase }], guard := none }) (v := Value.bool sw) rfl (by kernel_rfl) (by kernel_rfl) (by kernel_rfl) (fun _ _ _ h => nomatch h.1) (Or.inl ⟨rfl, fun _ _ => by kernel_rfl⟩) hS ?_
    try simp only [Act.put, List.setIfInBounds_toArray, List.set_cons_zero, List.set_cons_succ]
    refine wpAnyH_done (by kernel_rfl) ?_ _
    have DF := D16.row B
    have kd : Kept [d] x15 (x15.setRow d B) := (Kept.refl [d] _).setRow (Or.inl (by simp)) B
    exact ⟨rfl, d, B, rfl, DF, ⟨q16.c.rowOther B (by omega), q16.m.rowOther B (by omega), q16.c'.rowOther B (by omega), q16.m'.rowOther B (by omega), q16.k.setRow (Or.inr (by have := q16.old; omega)) B, q16.old⟩, v15.one D16 (by decide) kd, hd1⟩
  · rintro a' W1 ⟨nb, B, rfl, D0, R0, V0, hnb⟩
    have HU := hidOf (And.intro R0 (And.intro D0 V0))
    have HB := hidOf (And.intro V0.size V0.allOne)
    simp only [Act.put, List.setIfInBounds_toArray, List.set_cons_zero, List.set_cons_succ]
    clear D0 R0 V0 Q1
    cases sw with
    | true =>
      have e : RS = t.down := HRS.out.trans (if_pos (by trivial))
      subst e
      go_upto_region 21 with (fail)
      refine wp_ret1c isT_rh isT_rm (by kernel_rfl) (by kernel_rfl) (fun _ _ _ _ _ h => h) b nb (b + 1 + 1) (b + 1 + 1 + 1) (rhA t) B (rhA t.down) rhZ rmZ rfl HB.out.1 rfl (rh_one _) HB.out.2 rfl rfl HU.out.1.c HU.out.2.1 HU.out.1.c' HU.out.1.m' (by omega) (by omega) (by omega) (by omega) (by omega) (fun W _ => HGo.out W) rfl rfl (fun _ => by kernel_rfl) rfl rfl rfl rfl ?_
      intro V KV
      simp only [Act.put, List.setIfInBounds_toArray, List.set_cons_zero, List.set_cons_succ]
      go_wp2
      have FF := fin4 (A := (rhA t.down)) (HU.out.1.new KV) (HU.out.2.2.new KV)
      exact bodyPost_ret (v := .tuple #[.agg (rhA t.down), .agg B]) (results_rw2 Tryd.results14 isT_rh isT_rm _ _ (b + 1 + 1) (b + 1 + 1 + 1) (rhA t.down) B rfl HB.out.1 rfl rfl FF.1 FF.2.1) rfl ⟨B, rfl, FF.2.2⟩
    | false =>
      have e : RS = ⟨t.h, 1, t.lv, t.s, false⟩ := HRS.out.trans (if_neg (by decide))
      subst e
      have p1 := cell_of_blk HU.out.1.c (i := 1) (v := .int .i64 t.nx) rfl
      have hf := free_of_blk HU.out.1.c
      go_upto_region 23 with (fail)
      refine gen_world (fun X => R4 42 35 w X b (rhA ⟨t.h, 1, t.lv, t.s, false⟩) M rhZ rmZ ∧ RW 35 X nb B ∧ Wv w g c n CC CN AC B X) ?_ ?_
      · have kb : ∀ Y, Kept [b] W1 Y → RW 42 Y b (rhA ⟨t.h, 1, t.lv, t.s, false⟩) → R4 42 35 w Y b (rhA ⟨t.h, 1, t.lv, t.s, false⟩) M rhZ rmZ ∧ RW 35 Y nb B ∧ Wv w g c n CC CN AC B Y := fun Y k h => ⟨r4_setc HU.out.1 h k, HU.out.2.1.kept k (by simp; omega), HU.out.2.2.one HU.out.1.c (by decide) k⟩
        refine kb _ ((Kept.refl [b] W1).setCell (Or.inl (by simp)) _) ?_
        have z := HU.out.1.c
        have y := z.set 1 (.int .i64 1)
        rw [show rhA t = #[.int .u64 t.h, .int .i64 t.nx, .int .i64 t.lv, .int .u64 t.s, .bool false] by rw [← HD.out]; rfl] at y
        exact y
      clear HU p1 hf
      rintro X ⟨RX, DX, VX⟩
      refine wp_ret2 isT_rh isT_rm (by kernel_rfl) (by kernel_rfl) (fun _ _ _ _ _ h => h) b nb (b + 1 + 1) (b + 1 + 1 + 1) (rhA ⟨t.h, 1, t.lv, t.s, false⟩) B rhZ rmZ rfl HB.out.1 (rh_one _) HB.out.2 rfl rfl RX.c DX RX.c' RX.m' (by omega) (by omega) (by omega) (by omega) (by omega) rfl rfl rfl rfl rfl rfl ?_
      simp only [Act.put, List.setIfInBounds_toArray, List.set_cons_zero, List.set_cons_succ]
      go_wp2
      have FF := fin4 (A := (rhA ⟨t.h, 1, t.lv, t.s, false⟩)) (RX.new (Kept.refl [] _).drew) (VX.new (Kept.refl [] _).drew)
      exact bodyPost_ret (v := .tuple #[.agg (rhA ⟨t.h, 1, t.lv, t.s, false⟩), .agg B]) (results_rw2 Tryd.results14 isT_rh isT_rm _ _ (b + 1 + 1) (b + 1 + 1 + 1) (rhA ⟨t.h, 1, t.lv, t.s, false⟩) B rfl HB.out.1 rfl rfl FF.1 FF.2.1) rfl ⟨B, rfl, FF.2.2⟩
end K
end Go.Proofs.YtjbdaejkofkcpaaDoor
