/-
  The document's words as a value that survives writes to other blocks; its load and its swap, as a whole.
  The document's find, as a value: what each of its parts makes of it.
  The document's find: how a level ends.
  The document's find: a read.
  Three structs by value given back; the document's calls, their words as a whole.
  The document's find: any step.
  The document's find: any step (the rest).
-/
import Derived.Test.YtgafmklfpiipcaaGreatDoorKBase
import Derived.Test.YtgafmklfpiipcaaGreatDoorRZLay
import Derived.Test.YtgafmklfpiipcaaGreatDoorMRef2
import Derived.Test.YtgafmklfpiipcaaGreatDoorMRef3
import Derived.Test.YtgafmklfpiipcaaGreatDoorGRef
import Derived.Test.YtgafmklfpiipcaaGreatDoorFMath
import Derived.Test.YtgafmklfpiipcaaGreatDoorGOwn
import Derived.Test.YtgafmklfpiipcaaGreatDoorRZFind
namespace Go.Proofs.YtgafmklfpiipcaaGreatDoor
open Go.RowKit (Grown Hid Below)
open Go.Deep
namespace K
set_option maxRecDepth 100000
theorem Wv.size {w V : World} {g : Nat} {c : Cfg} {n : Nat} {cs : List Int} {cnt : Int} {a : Acc} {A : Array Value} (h : Wv w g c n cs cnt a A V) : A.size = 15 := by obtain ⟨g', c', e, _⟩ := h; rw [e]; rfl
theorem Wv.allOne {w V : World} {g : Nat} {c : Cfg} {n : Nat} {cs : List Int} {cnt : Int} {a : Acc} {A : Array Value} (h : Wv w g c n cs cnt a A V) : A.all (·.oneCell') = true := by obtain ⟨g', c', e, _⟩ := h; rw [e]; exact rm_one _ _ _ _ _ _
theorem Wv.cells {w V : World} {g : Nat} {c : Cfg} {n : Nat} {cs : List Int} {cnt : Int} {a : Acc} {A : Array Value} (h : Wv w g c n cs cnt a A V) : A[3]? = some (.int .i64 c.h) ∧ A[8]? = some (.int .i64 cnt) := by obtain ⟨g', c', e, _⟩ := h; rw [e]; exact ⟨rfl, rfl⟩
theorem Wv.new {w V V' : World} {g : Nat} {c : Cfg} {n : Nat} {cs : List Int} {cnt : Int} {a : Acc} {A : Array Value} (h : Wv w g c n cs cnt a A V) (k : Kept [] V V') : Wv w g c n cs cnt a A V' := by obtain ⟨g', c', e, h1, h2⟩ := h; exact ⟨g', c', e, h1, h2.kept k (by simp)⟩
theorem Wv.one {w V V' : World} {g : Nat} {c : Cfg} {n : Nat} {cs : List Int} {cnt : Int} {a : Acc} {A : Array Value} (h : Wv w g c n cs cnt a A V) {T : TypeId} {b : Nat} {B : Array Value} (r : RW T V b B) (hT : 25 ≠ T) (k : Kept [b] V V') : Wv w g c n cs cnt a A V' := by
  obtain ⟨g', c', e, h1, h2⟩ := h
  exact ⟨g', c', e, h1, h2.kept k (by simp; exact h2.ne r (fun e => hT e.symm))⟩
theorem Wv.old {w w2 V : World} {g : Nat} {c : Cfg} {n : Nat} {cs : List Int} {cnt : Int} {a : Acc} {A : Array Value} (h : Wv w2 g c n cs cnt a A V) (k : w.heap.size ≤ w2.heap.size) : Wv w g c n cs cnt a A V := by
  obtain ⟨g', c', e, h1, h2⟩ := h
  exact ⟨g', c', e, h1.imp id (fun h => by omega), h2⟩
/-- The document's load, its words as a whole. -/
theorem rloadW (c : Cfg) (g : Nat) (cs : List Int) (cap : Nat) (cnt : Int) (a : Acc) (h f : Int) (w : World) (hR : RowR w g cs cap) (hl : cs.length ≤ 17592186044415) (h0 : isW h) (c0 : 0 ≤ cnt) (c1 : cnt < 4611686018427387904) :
    Calls Tryz.prog 35 #[.agg (rmA c (some ⟨g, 0, none⟩) cs.length cap cnt a), .int .u64 h, .int .i64 f] w fun e w' => ∃ B, e = .returned (.tuple #[.agg B, .int .u64 (fd c cs (ixV h) f)]) ∧ Wv w g c cs.length cs (cnt + 1) (acV cs 1 (clV' c (ixV h) f) (plainV h) 0 0) B w' ∧ Kept [] w w' := by
  refine (qload_any c g cs cap cnt a h f w hR hl h0.1 h0.2 c0 c1).mono ?_
  rintro e w' ⟨g', c', rfl, h1, h2, k⟩
  rw [clV_load] at h2
  rw [ld_o]
  exact ⟨_, rfl, ⟨g', c', rfl, h1, h2⟩, k⟩
theorem rswapW (c : Cfg) (g : Nat) (cs : List Int) (cap : Nat) (cnt : Int) (a : Acc) (h f old v : Int) (w : World) (hR : RowR w g cs cap) (hl : cs.length ≤ 17592186044415) (h0 : isW h) (c0 : 0 ≤ cnt) (c1 : cnt < 4611686018427387904) :
    Calls Tryz.prog 68 #[.agg (rmA c (some ⟨g, 0, none⟩) cs.length cap cnt a), .int .u64 h, .int .i64 f, .int .u64 old, .int .u64 v] w fun e w' => ∃ B, e = .returned (.tuple #[.agg B, .bool (acV cs 3 (clV' c (ixV h) f) (plainV h) old v).d]) ∧ Wv w g c cs.length (clV cs 3 (clV' c (ixV h) f) old v) (cnt + 1) (acV cs 3 (clV' c (ixV h) f) (plainV h) old v) B w' ∧ Kept [] w w' := by
  refine (qswap_any c g cs cap cnt a h f old v w hR hl h0.1 h0.2 c0 c1).mono ?_
  rintro e w' ⟨g', c', rfl, h1, h2, k⟩
  exact ⟨_, rfl, ⟨g', c', rfl, h1, h2⟩, k⟩
theorem wp_alloc_any {o : Oper} {a : Act} {w : World} {K : Act → World → Prop} {Q : Exit → Act → World → Prop} (T : TypeId) (Z : Array Value) (hrun : (execOp a.eval o).run Tryz.prog w = .ok (.value (.pointer (some ⟨w.heap.size, 0, none⟩))) (w.alloc (.cells Z T)))
    (h : ∀ d wa, RW T wa d Z → w.heap.size ≤ d → Kept [] w wa → K (a.put o.dst (.pointer (some ⟨d, 0, none⟩))) wa) : o.wp Tryz.prog a w K Q := by
  unfold Oper.wp; rw [hrun, Oper.upon_value]; exact h _ _ (RW.new T w Z) (Nat.le_refl _) ((Kept.refl [] w).alloc _)
/-- 'return f(x), y': what a function makes of the first struct is given back, and the other one. -/
def ret1c (d1 d2 d3 x1 x2 y1 y2 : Nat) (F T1 T2 : Nat) (p1 p2 p3 p4 p5 : String) : Array Oper := #[{ dst := some d1, op := .load T1 (.tmp x1), type := T1, pos := p1, after := #[], guard := none }, { dst := some d2, op := .call { callee := .value (.func F), args := #[.tmp d1], argTypes := #[T1] }, type := T1, pos := p2, after := #[{ on := 0, ground := .data }], guard := none }, { dst := some d3, op := .load T2 (.tmp x2), type := T2, pos := p3, after := #[{ on := 3, ground := .gcOnly .lateStores }], guard := none }, { dst := none, op := .store T1 (.tmp y1) (.tmp d2), type := 0, pos := p4, after := #[{ on := 1, ground := .data }, { on := 1, ground := .chain }, { on := 0, ground := .phase }, { on := 1, ground := .phase }, { on := 2, ground := .textOnly .lateStores }], guard := none }, { dst := none, op := .store T2 (.tmp y2) (.tmp d3), type := 0, pos := p5, after := #[{ on := 2, ground := .data }, { on := 3, ground := .chain }, { on := 0, ground := .phase }, { on := 1, ground := .phase }, { on := 2, ground := .phase }, { on := 3, ground := .phase }], guard := none }]
set_option maxHeartbeats 4000000 in
theorem wp_ret1c {id d1 d2 d3 x1 x2 y1 y2 : Nat} {p1 p2 p3 p4 p5 : String} {F T1 T2 n1 n2 : Nat} {Q : Exit → Act → World → Prop} {a : Act} {w : World} (h1 : IsT T1 n1) (h2 : IsT T2 n2)
    (f0 : Region.free .any (ret1c d1 d2 d3 x1 x2 y1 y2 F T1 T2 p1 p2 p3 p4 p5) #[false, false, false, false, false] 0 = true) (f2 : Region.free .any (ret1c d1 d2 d3 x1 x2 y1 y2 F T1 T2 p1 p2 p3 p4 p5) #[true, false, false, false, false] 2 = true)
    (hQ : ∀ c a w v (d : Nat), Q (.panic c) (Act.put a (some d) v) w → Q (.panic c) a w)
    (b1 b2 c1 c2 : Nat) (A B D O1 O2 : Array Value) (hA : A.size = n1) (hB : B.size = n2) (hD : D.size = n1) (oD : D.all (·.oneCell') = true) (oB : B.all (·.oneCell') = true) (hO1 : O1.size = n1) (hO2 : O2.size = n2)
    (r1 : RW T1 w b1 A) (r2 : RW T2 w b2 B) (r3 : RW T1 w c1 O1) (r4 : RW T2 w c2 O2) (e1 : ¬ c2 = c1) (e2 : ¬ b2 = c1) (e3 : ¬ b1 = c1) (e4 : ¬ b1 = c2) (e5 : ¬ b2 = c2)
    (hc : ∀ W, Kept [] w W → Calls Tryz.prog F #[.agg A] W fun e w' => e = .returned (.agg D) ∧ Kept [] W w')
    (hx1 : a.eval (.tmp x1) = .pointer (some ⟨b1, 0, none⟩)) (hx2 : (a.put (some d1) (.agg A)).eval (.tmp x2) = .pointer (some ⟨b2, 0, none⟩))
    (hrun : ∀ W, (execOp ((a.put (some d1) (.agg A)).put (some d3) (.agg B)).eval { dst := some d2, op := .call { callee := .value (.func F), args := #[.tmp d1], argTypes := #[T1] }, type := T1, pos := p2, after := #[{ on := 0, ground := .data }], guard := none }).run Tryz.prog W = .ok (.enter F #[.agg A]) W)
    (hy1 : (((a.put (some d1) (.agg A)).put (some d3) (.agg B)).put (some d2) (.agg D)).eval (.tmp y1) = .pointer (some ⟨c1, 0, none⟩)) (hv1 : (((a.put (some d1) (.agg A)).put (some d3) (.agg B)).put (some d2) (.agg D)).eval (.tmp d2) = .agg D)
    (hy2 : (((a.put (some d1) (.agg A)).put (some d3) (.agg B)).put (some d2) (.agg D)).eval (.tmp y2) = .pointer (some ⟨c2, 0, none⟩)) (hv2 : (((a.put (some d1) (.agg A)).put (some d3) (.agg B)).put (some d2) (.agg D)).eval (.tmp d3) = .agg B)
    (h : ∀ W, Kept [] w W → Q .normal (((a.put (some d1) (.agg A)).put (some d3) (.agg B)).put (some d2) (.agg D)) ((W.setRow c1 D).setRow c2 B)) :
    (Code.region id (ret1c d1 d2 d3 x1 x2 y1 y2 F T1 T2 p1 p2 p3 p4 p5) true).wp Tryz.prog Q a w := by
  refine wp_region_held_drew (S := fun w' => RW T1 w' b1 A ∧ RW T2 w' b2 B ∧ (∃ O, RW T1 w' c1 O ∧ O.size = n1) ∧ (∃ O, RW T2 w' c2 O ∧ O.size = n2)) (by kernel_rfl) ⟨r1, r2, ⟨O1, r3, hO1⟩, ⟨O2, r4, hO2⟩⟩ (fun hS => ?_)
  refine wpAnyH_take (i := 0) (oi := { dst := some d1, op := .load T1 (.tmp x1), type := T1, pos := p1, after := #[], guard := none }) (v := .agg A) rfl (by kernel_rfl) f0 (by kernel_rfl) (fun _ _ _ h => hQ _ _ _ _ _ h) (yieldsIf_load_rw rfl T1 h1 (.tmp x1) rfl b1 hx1 A hA (fun _ h => h.1)) hS ?_
  refine wpAnyH_take (i := 2) (oi := { dst := some d3, op := .load T2 (.tmp x2), type := T2, pos := p3, after := #[{ on := 3, ground := .gcOnly .lateStores }], guard := none }) (v := .agg B) rfl (by kernel_rfl) f2 (by kernel_rfl) (fun _ _ _ h => hQ _ _ _ _ _ h) (yieldsIf_load_rw rfl T2 h2 (.tmp x2) rfl b2 hx2 B hB (fun _ h => h.2.1)) hS ?_
  refine wpAnyH_ready (rs := [1]) (by kernel_rfl) (by simp) ?_
  refine AllReadyH.cons (o := { dst := some d2, op := .call { callee := .value (.func F), args := #[.tmp d1], argTypes := #[T1] }, type := T1, pos := p2, after := #[{ on := 0, ground := .data }], guard := none }) rfl (fun K hK => ?_) AllReadyH.nil
  rw [if_pos (by rfl)]
  refine wp_calls F #[.agg A] (hrun _) (fun v W => v = .agg D ∧ Kept [] w W) ((hc w.drew (Kept.refl [] w).drew).mono fun e w' hh => ⟨_, hh.1, rfl, hh.2.undrew⟩) ?_
  rintro v W ⟨rfl, kW⟩
  have s1 := r1.kept kW (by simp)
  have s2 := r2.kept kW (by simp)
  have s3 := r3.kept kW (by simp)
  have s4 := r4.kept kW (by simp)
  refine hK.out _ _ ⟨s1, s2, ⟨O1, s3, hO1⟩, ⟨O2, s4, hO2⟩⟩ (fun hS0 => ?_)
  refine wpAnyH_ready (rs := [3]) (by kernel_rfl) (by simp) ?_
  refine AllReadyH.cons (o := { dst := none, op := .store T1 (.tmp y1) (.tmp d2), type := 0, pos := p4, after := #[{ on := 1, ground := .data }, { on := 1, ground := .chain }, { on := 0, ground := .phase }, { on := 1, ground := .phase }, { on := 2, ground := .textOnly .lateStores }], guard := none }) rfl (fun K hK => ?_) AllReadyH.nil
  rw [if_pos (by rfl)]
  refine wp_store_row T1 (.tmp y1) (.tmp d2) rfl c1 D hy1 hv1 T1 O1 s3 (by rw [h1.1, hD]) (by rw [hO1, hD]) oD ?_
  have s5 : RW T2 (W.setRow c1 D) c2 O2 := s4.rowOther D e1
  refine hK.out _ _ ⟨s1.rowOther D e3, s2.rowOther D e2, ⟨D, s3.row D, hD⟩, ⟨O2, s5, hO2⟩⟩ (fun hS2 => ?_)
  refine wpAnyH_ready (rs := [4]) (by kernel_rfl) (by simp) ?_
  refine AllReadyH.cons (o := { dst := none, op := .store T2 (.tmp y2) (.tmp d3), type := 0, pos := p5, after := #[{ on := 2, ground := .data }, { on := 3, ground := .chain }, { on := 0, ground := .phase }, { on := 1, ground := .phase }, { on := 2, ground := .phase }, { on := 3, ground := .phase }], guard := none }) rfl (fun K2 hK2 => ?_) AllReadyH.nil
  rw [if_pos (by rfl)]
  refine wp_store_row T2 (.tmp y2) (.tmp d3) rfl c2 B hy2 hv2 T2 O2 s5 (by rw [h2.1, hB]) (by rw [hO2, hB]) oB ?_
  refine hK2.out _ _ ⟨hS2.1.rowOther B e4, hS2.2.1.rowOther B e5, ⟨D, (s3.row D).rowOther B (fun e => e1 e.symm), hD⟩, ⟨B, s5.row B, hB⟩⟩ (fun _ => ?_)
  exact wpAnyH_done (by kernel_rfl) (h W kW) _
end K
end Go.Proofs.YtgafmklfpiipcaaGreatDoor
namespace Go.Proofs.YtgafmklfpiipcaaGreatDoor
open Go.RowKit (Grown Hid Below)
open Go.Deep
namespace K
set_option maxRecDepth 100000
def rfA (f : Fm) (a1 : Option Addr) (n1 c1 : Nat) (a2 : Option Addr) (n2 c2 : Nat) (a3 : Option Addr) (n3 c3 : Nat) : Array Value := #[.int .u64 f.k, .int .i64 f.nx, .int .i64 f.dn, .int .u64 f.pr, .int .u64 f.x, .int .u64 f.s, .int .u64 f.era, .slice a1 n1 c1, .slice a2 n2 c2, .slice a3 n3 c3, .int .i64 f.at_, .bool f.d]
def fm0 : Fm := ⟨0, 0, 0, 0, 0, 0, 0, [], [], [], 0, false⟩
def rfZ : Array Value := rfA fm0 none 0 0 none 0 0 none 0 0
theorem isT_rf : IsT 44 12 := ⟨by kernel_rfl, _, Tryz.underlying44⟩
theorem rf_one (f : Fm) (a1 a2 a3 : Option Addr) (n1 n2 n3 c1 c2 c3 : Nat) : (rfA f a1 n1 c1 a2 n2 c2 a3 n3 c3).all (·.oneCell') = true := by simp [rfA, Value.oneCell']
/-- A find, and where its rows lie. -/
def RF (base : Nat) (w : World) (f : Fm) (A : Array Value) : Prop := ∃ a1 c1 a2 c2 a3 c3, A = rfA f a1 f.ps.length c1 a2 f.ss.length c2 a3 f.ks.length c3 ∧ SlB base w a1 c1 f.ps ∧ SlB base w a2 c2 f.ss ∧ SlB base w a3 c3 f.ks
theorem RF.kept {base : Nat} {l : List Nat} {w w' : World} {f : Fm} {A : Array Value} (h : RF base w f A) (k : Kept l w w') (hl : ∀ x ∈ l, x < base) : RF base w' f A := by
  obtain ⟨a1, c1, a2, c2, a3, c3, e, h1, h2, h3⟩ := h
  exact ⟨a1, c1, a2, c2, a3, c3, e, h1.kept k hl, h2.kept k hl, h3.kept k hl⟩
theorem RF.new {base : Nat} {w w' : World} {f : Fm} {A : Array Value} (h : RF base w f A) (k : Kept [] w w') : RF base w' f A := h.kept k (by simp)
theorem RF.anew (base : Nat) (w : World) (f : Fm) (a : Int) : RF base w (f.anew a) (rfA (f.anew a) none 0 0 none 0 0 none 0 0) := ⟨none, 0, none, 0, none, 0, rfl, SlB.nil _ _, SlB.nil _ _, SlB.nil _ _⟩
set_option maxHeartbeats 2000000 in
theorem rfanew_any (f : Fm) (a1 a2 a3 : Option Addr) (n1 n2 n3 c1 c2 c3 : Nat) (w : World) :
    Calls Tryz.prog 59 #[.agg (rfA f a1 n1 c1 a2 n2 c2 a3 n3 c3)] w fun e w' => e = .returned (.agg (rfA (f.anew f.at_) none 0 0 none 0 0 none 0 0)) ∧ Kept [] w w' := by
  obtain ⟨b, hb⟩ : ∃ b, b = w.heap.size := ⟨_, rfl⟩
  have ST := hidOf (two_new 44 44 w (rfA f a1 n1 c1 a2 n2 c2 a3 n3 c3) rfZ hb)
  obtain ⟨A, hA⟩ : ∃ A, A = rfA f a1 n1 c1 a2 n2 c2 a3 n3 c3 := ⟨_, rfl⟩
  have A0 : A[0]? = some (.int .u64 f.k) := by rw [hA]; rfl
  have A10 : A[10]? = some (.int .i64 f.at_) := by rw [hA]; rfl
  rw [← hA] at ST ⊢
  clear hA
  have E : rfA (f.anew f.at_) none 0 0 none 0 0 none 0 0 = #[.int .u64 f.k, .int .i64 0, .int .i64 0, .int .u64 9223372036854775808, .int .u64 0, .int .u64 0, .int .u64 0, .slice none 0 0, .slice none 0 0, .slice none 0 0, .int .i64 f.at_, .bool false] := rfl
  rw [E]
  clear E
  go_enter Tryz.func59, Tryz.ntmps59
  go_upto_region 1 with (fail)
  rw [← hb]
  refine gen_world (fun W => RW 44 W b A ∧ RW 44 W (b + 1) rfZ ∧ Kept [] w W) ST.out ?_
  have hbw : w.heap.size ≤ b := by omega
  clear ST hb
  rintro W ⟨B0, C0, hk⟩
  have q0 := cell_of_blk B0 (i := 0) A0
  have q10 := cell_of_blk B0 (i := 10) A10
  go_wp2_with (first | ((with_reducible change wpList _ _ _ (Oper.mk _ (Op.store 44 _ _) _ _ _ _ :: _) _ _); refine wpList_store_rw 44 isT_rf rfl (.tmp 2) (.tmp 7) rfl (b + 1) #[.int .u64 f.k, .int .i64 0, .int .i64 0, .int .u64 9223372036854775808, .int .u64 0, .int .u64 0, .int .u64 0, .slice none 0 0, .slice none 0 0, .slice none 0 0, .int .i64 f.at_, .bool false] rfl rfl rfl (by simp [Value.oneCell']) rfZ C0 rfl ?_))
  refine bodyPost_ret (v := .agg #[.int .u64 f.k, .int .i64 0, .int .i64 0, .int .u64 9223372036854775808, .int .u64 0, .int .u64 0, .int .u64 0, .slice none 0 0, .slice none 0 0, .slice none 0 0, .int .i64 f.at_, .bool false]) ?_ rfl ⟨rfl, hk.setRow (b := b + 1) (Or.inr (by omega)) _⟩
  obtain ⟨fs, hu⟩ := isT_rf.2
  exact results_cell_row Tryz.results59 _ _ (b + 1) 44 _ (0, 0) _ rfl (C0.row _) hu rfl (by rw [isT_rf.1]; rfl)
set_option maxHeartbeats 2000000 in
theorem rfnew_any (k : Int) (w : World) :
    Calls Tryz.prog 30 #[.int .u64 k] w fun e w' => e = .returned (.agg (rfA ((⟨k, 0, 0, 0, 0, 0, 0, [], [], [], 0, false⟩ : Fm).anew 0) none 0 0 none 0 0 none 0 0)) ∧ Kept [] w w' := by
  have AN := hidOf (fun W => rfanew_any ⟨k, 0, 0, 0, 0, 0, 0, [], [], [], 0, false⟩ none none none 0 0 0 0 0 0 W)
  have E : rfA ⟨k, 0, 0, 0, 0, 0, 0, [], [], [], 0, false⟩ none 0 0 none 0 0 none 0 0 = #[.int .u64 k, .int .i64 0, .int .i64 0, .int .u64 0, .int .u64 0, .int .u64 0, .int .u64 0, .slice none 0 0, .slice none 0 0, .slice none 0 0, .int .i64 0, .bool false] := rfl
  obtain ⟨R, hR⟩ : ∃ R, R = rfA ((⟨k, 0, 0, 0, 0, 0, 0, [], [], [], 0, false⟩ : Fm).anew 0) none 0 0 none 0 0 none 0 0 := ⟨_, rfl⟩
  have hR12 : R.size = 12 := by rw [hR]; rfl
  have hR1 : R.all (·.oneCell') = true := by rw [hR]; exact rf_one _ _ _ _ _ _ _ _ _ _
  have AN2 : Hid (∀ W, Calls Tryz.prog 59 #[.agg #[.int .u64 k, .int .i64 0, .int .i64 0, .int .u64 0, .int .u64 0, .int .u64 0, .int .u64 0, .slice none 0 0, .slice none 0 0, .slice none 0 0, .int .i64 0, .bool false]] W fun e w' => e = .returned (.agg R) ∧ Kept [] W w') := by rw [hR]; exact AN.out
  rw [← hR]
  clear AN E hR
  obtain ⟨b, hb⟩ : ∃ b, b = w.heap.size := ⟨_, rfl⟩
  have ST : Hid (RW 44 (w.alloc (.cells rfZ 44)) b rfZ ∧ Kept [] w (w.alloc (.cells rfZ 44))) := hidOf ⟨by rw [hb]; exact RW.new _ _ _, (Kept.refl [] w).alloc _⟩
  go_enter Tryz.func30, Tryz.ntmps30
  go_upto_region 1 with (fail)
  rw [← hb]
  refine gen_world (fun W => RW 44 W b rfZ ∧ Kept [] w W) ST.out ?_
  have hbw : w.heap.size ≤ b := by omega
  clear ST hb
  rintro W ⟨C0, hk⟩
  go_wp2_with fail
  refine (AN2.out _).mono ?_
  rintro e w1 ⟨rfl, K1⟩
  have C1 := C0.kept K1 (by simp)
  go_wp2_with (first | ((with_reducible change wpList _ _ _ (Oper.mk _ (Op.store 44 _ _) _ _ _ _ :: _) _ _); refine wpList_store_rw 44 isT_rf rfl (.tmp 2) (.tmp 5) rfl b R rfl rfl hR12 hR1 rfZ C1 rfl ?_))
  refine bodyPost_ret (v := .agg R) ?_ rfl ⟨rfl, (hk.trans K1).setRow (b := b) (Or.inr (by omega)) _⟩
  obtain ⟨fs, hu⟩ := isT_rf.2
  exact results_cell_row Tryz.results30 _ _ b 44 _ (0, 0) _ rfl (C1.row _) hu rfl (by rw [isT_rf.1, hR12])
/-- A level's part of a row that has the highest one first. -/
def prV (d : Bool) (xs : List Int) (l : Int) : Int := if d = true ∧ 0 ≤ l ∧ l < xs.length then xs.getD (xs.length - 1 - l.toNat) 0 else 0
theorem wp_value {o : Oper} {a : Act} {w w1 : World} {K : Act → World → Prop} {Q : Exit → Act → World → Prop} (v : Value) (hrun : (execOp a.eval o).run Tryz.prog w = .ok (.value v) w1) (h : K (a.put o.dst v) w1) : o.wp Tryz.prog a w K Q := by
  unfold Oper.wp; rw [hrun, Oper.upon_value]; exact h
theorem wp_append_rw {w : World} {o : Oper} {a : Act} {K : Act → World → Prop} {Q : Exit → Act → World → Prop} (s x : Operand) (t : TypeId)
    (ho : o.op = .call { callee := .builtin .append, args := #[s, x], argTypes := #[t, t] }) {v u r : Value} {w1 : World} (hs : a.eval s = v) (hx : a.eval x = u) (hrun : (Builtin.append_ #[t, t] o.type #[v, u]).run Tryz.prog w = .ok r w1)
    (h : K (a.put o.dst r) w1) : o.wp Tryz.prog a w K Q := by
  unfold Oper.wp
  simp [execOp, ho, resolve, invoke, builtin, hs, hx, hrun, Result.andThen]
  exact h
theorem wp_store_slice {o : Oper} {a : Act} {w : World} {K : Act → World → Prop} {Q : Exit → Act → World → Prop} (ty : TypeId) (x y : Operand) (ho : o.op = .store ty x y) (b i : Nat) (hx : a.eval x = .pointer (some ⟨b, i, none⟩)) (p : Option Addr) (l c : Nat) (hy : a.eval y = .slice p l c)
    {T : TypeId} {A : Array Value} (hb : RW T w b A) (hi : i < A.size) (hsz : (Tryz.prog.info? ty).map (·.size) = some 1) (h : K (a.put o.dst undef) (w.setCell ⟨b, i, none⟩ (.slice p l c))) : o.wp Tryz.prog a w K Q := by
  have q : w.cell? ⟨b, i, none⟩ = some A[i] := cell_of_blk hb (by simp [hi])
  have f := free_of_blk hb i
  have hs : (Tryz.prog.info? ty).map (·.size) = some 1 := hsz
  obtain ⟨i0, hi1, hi2⟩ := Option.map_eq_some_iff.1 hs
  unfold Oper.wp execOp
  simp only [ho, hx, hy, Instr.storeAt, Instr.sureAddr, Sem.run_bind, Sem.run_pure, Result.andThen_ok]
  simp [storeVar, sizeOf, typeInfo, hi1, hi2, Value.cells, storeCells, go_sem, q, f]
  exact h
end K
end Go.Proofs.YtgafmklfpiipcaaGreatDoor
namespace Go.Proofs.YtgafmklfpiipcaaGreatDoor
open Go.RowKit (Grown Hid Below)
open Go.Deep
namespace K
set_option maxRecDepth 100000
theorem info_ws : (Tryz.prog.info? 24).map (·.size) = some 1 := by kernel_rfl
theorem SlB.mono {base b2 : Nat} {w : World} {ao : Option Addr} {cap : Nat} {xs : List Int} (h : SlB base w ao cap xs) (hb : b2 ≤ base) : SlB b2 w ao cap xs := ⟨h.s, h.c, fun ad e => Nat.le_trans hb (h.b ad e), h.t⟩
theorem SlB.neRW {base : Nat} {w : World} {ao : Option Addr} {cap : Nat} {xs : List Int} (h : SlB base w ao cap xs) {T : TypeId} {b : Nat} {A : Array Value} (r : RW T w b A) (hT : 25 ≠ T) : ∀ ad, ao = some ad → ¬ ad.block = b := fun ad e h2 => by
  obtain ⟨cur, z⟩ := h.t ad e
  unfold RW at r
  rw [h2, r] at z; simp at z; exact hT z.2.symm
theorem SlB.one {base : Nat} {w w' : World} {ao : Option Addr} {cap : Nat} {xs : List Int} (h : SlB base w ao cap xs) {T : TypeId} {b : Nat} {A : Array Value} (r : RW T w b A) (hT : 25 ≠ T) (k : Kept [b] w w') : SlB base w' ao cap xs :=
  h.far k (fun ad e hx => h.neRW r hT ad e (by simpa using hx))
theorem RF.far1 {base : Nat} {w w' : World} {f : Fm} {X : Array Value} (h : RF base w f X) {T : TypeId} {b : Nat} {A : Array Value} (r : RW T w b A) (hT : 25 ≠ T) (k : Kept [b] w w') : RF base w' f X := by
  obtain ⟨a1, c1, a2, c2, a3, c3, e, h1, h2, h3⟩ := h
  exact ⟨a1, c1, a2, c2, a3, c3, e, h1.one r hT k, h2.one r hT k, h3.one r hT k⟩
theorem sl_one (w : World) (x : Int) : Sl (w.alloc (.cells #[.int .u64 x] 25)) (some ⟨w.heap.size, 0, none⟩) [x] := by
  intro _
  refine ⟨_, rfl, fun j hj => ?_⟩
  have hj0 : j = 0 := by simp at hj; omega
  subst hj0
  exact cell_of_blk (blk_alloc_new w _) rfl
theorem wp_lit0 {o : Oper} {a : Act} {w : World} {K : Act → World → Prop} {Q : Exit → Act → World → Prop} (ho : o.op = .buildSlice 24 0 #[]) (h : ∀ v wa, OwnV 1 wC wa w.heap.size 25 v [] → Kept [] w wa → K (a.put o.dst v) wa) : o.wp Tryz.prog a w K Q := by
  refine wp_value (.slice (some ⟨w.heap.size, 0, none⟩) 0 0) ?_ (h _ _ (OwnV.lit w (Nat.le_refl _)) ((Kept.refl [] w).alloc _))
  simp [execOp, ho, go_sem]
theorem wp_lit1 {o : Oper} {a : Act} {w : World} {K : Act → World → Prop} {Q : Exit → Act → World → Prop} (y : Operand) (ho : o.op = .buildSlice 24 1 #[(0, y)]) (x : Int) (hy : a.eval y = .int .u64 x)
    (h : ∀ ad wa, Sl wa (some ad) [x] → w.heap.size ≤ ad.block → ad.block < wa.heap.size → Kept [] w wa → K (a.put o.dst (.slice (some ad) 1 1)) wa) : o.wp Tryz.prog a w K Q := by
  refine wp_value (.slice (some ⟨w.heap.size, 0, none⟩) 1 1) ?_ (h ⟨w.heap.size, 0, none⟩ _ (sl_one w x) (Nat.le_refl _) (by rw [nblk_alloc]; exact Nat.lt_succ_self _) ((Kept.refl [] w).alloc _))
  obtain ⟨ev, hev⟩ : ∃ ev, ev = a.eval := ⟨_, rfl⟩
  rw [← hev] at hy ⊢
  simp [execOp, ho, hy, go_sem]
theorem wp_load_slice {o : Oper} {a : Act} {w : World} {K : Act → World → Prop} {Q : Exit → Act → World → Prop} (x : Operand) (ho : o.op = .load 24 x) (b i : Nat) (hx : a.eval x = .pointer (some ⟨b, i, none⟩)) (p : Option Addr) (l c : Nat) (q : w.cell? ⟨b, i, none⟩ = some (.slice p l c)) (h : K (a.put o.dst (.slice p l c)) w) : o.wp Tryz.prog a w K Q := by
  refine wp_value (.slice p l c) ?_ h
  obtain ⟨ev, hev⟩ : ∃ ev, ev = a.eval := ⟨_, rfl⟩
  rw [← hev] at hx ⊢
  simp [execOp, ho, hx, q, go_sem]
theorem wp_append_ws {o : Oper} {a : Act} {w : World} {K : Act → World → Prop} {Q : Exit → Act → World → Prop} (s x : Operand) (ho : o.op = .call { callee := .builtin .append, args := #[s, x], argTypes := #[24, 24] }) {v : Value} {ao : Option Addr} {n cap base : Nat} {ys xs : List Int}
    (hs : a.eval s = v) (hx : a.eval x = .slice ao n cap) (hn : n = xs.length) (hO : OwnV 1 wC w base 25 v ys) (hsl : Sl w ao xs) (hc : ao = none → cap = 0) (hb : base ≤ w.heap.size) (hm : ys.length + xs.length ≤ 100000)
    (h : ∀ v' w1, OwnV 1 wC w1 base 25 v' (ys ++ xs) → Kept v.ownBlock.toList w w1 → K (a.put o.dst v') w1) : o.wp Tryz.prog a w K Q := by
  obtain ⟨v', w1, hrun, O1, k1⟩ := append_ws o.type w base v ys xs ao n cap hn hO hsl hc hb hm
  exact wp_append_rw s x 24 ho hs hx hrun (h v' w1 O1 k1)
/-- A region that ends as it should: what is known behind it is enough. -/
theorem region_key {P : Program} {id : Nat} {ops : Array Oper} {d : Bool} {Q : Exit → Act → World → Prop} {a : Act} {w : World} (R : Act → Act → World → Prop) (h1 : (Code.region id ops d).wp P (fun e a' w' => e = .normal ∧ R a a' w') a w) (h2 : ∀ a' w', R a a' w' → Q .normal a' w') : (Code.region id ops d).wp P Q a w :=
  Code.wp_mono (fun e a' w' h => by obtain ⟨rfl, h⟩ := h; exact h2 a' w' h) h1
/-- Behind the statement that notes pred. -/
def EndR (b base : Nat) (W0 : World) (a1 : Option Addr) (n1 c1 : Nat) (xs : List Int) (pr : Int) (a a' : Act) (w' : World) : Prop :=
  ∃ v9 v12 v15 ao cp, a' = ((((((((a.put (some 9) v9).put (some 10) (.pointer (some ⟨b, 7, none⟩))).put (some 11) (.slice a1 n1 c1)).put (some 12) v12).put (some 13) (.pointer (some ⟨b, 3, none⟩))).put (some 14) (.int .u64 pr)).put (some 15) v15).put (some 16) (.slice ao (xs ++ [pr]).length cp)).put (some 17) (.pointer (some ⟨b, 7, none⟩)) ∧
    ∃ w2, w' = w2.setCell ⟨b, 7, none⟩ (.slice ao (xs ++ [pr]).length cp) ∧ SlB base w2 ao cp (xs ++ [pr]) ∧ Kept [] W0 w2
set_option maxHeartbeats 8000000 in
theorem rended_any (c : Cfg) (f : Fm) (A M : Array Value) (base : Nat) (su ke : Int) (w : World) (h : RF base w f A) (hM : M[3]? = some (.int .i64 c.h)) (hb : base ≤ w.heap.size) (hl : f.ps.length ≤ 1000 ∧ f.ss.length ≤ 1000 ∧ f.ks.length ≤ 1000 ∧ f.dn ≤ 1000) :
    Calls Tryz.prog 69 #[.agg A, .agg M, .int .u64 su, .int .u64 ke] w fun e w' => ∃ A', e = .returned (.agg A') ∧ RF base w' (f.ended c f.at_ su ke) A' ∧ Kept [] w w' := by
  obtain ⟨a1, c1, a2, c2, a3, c3, hA, S1, S2, S3⟩ := h
  obtain ⟨n1, hn1⟩ : ∃ n, n = f.ps.length := ⟨_, rfl⟩
  obtain ⟨n2, hn2⟩ : ∃ n, n = f.ss.length := ⟨_, rfl⟩
  obtain ⟨n3, hn3⟩ : ∃ n, n = f.ks.length := ⟨_, rfl⟩
  rw [← hn1, ← hn2, ← hn3] at hA
  obtain ⟨b, hbw⟩ : ∃ b, b = w.heap.size := ⟨_, rfl⟩
  have ST := hidOf (three_new 44 35 44 w A M rfZ hbw)
  have HA := hidOf hA
  have HL := hidOf hl
  obtain ⟨pr, hpr⟩ : ∃ p, p = f.pr := ⟨_, rfl⟩
  have hA12 : A.size = 12 := by rw [hA]; rfl
  have h7 : A[7]? = some (.slice a1 n1 c1) := by rw [hA]; rfl
  have h3 : A[3]? = some (.int .u64 pr) := by rw [hA, hpr]; rfl
  have hc1 := S1.c
  have HS := hidOf (⟨S1, S2, S3⟩ : SlB base w a1 c1 f.ps ∧ SlB base w a2 c2 f.ss ∧ SlB base w a3 c3 f.ks)
  have HP := hidOf hpr
  clear S1 S2 S3 hA hpr hl
  go_enter Tryz.func69, Tryz.ntmps69
  go_upto_region 1 with (fail)
  rw [← hbw]
  refine gen_world (fun W => RW 44 W b A ∧ RW 35 W (b + 1) M ∧ RW 44 W (b + 1 + 1) rfZ ∧ Kept [] w W) ST.out ?_
  have hbb : w.heap.size ≤ b := by omega
  clear ST hbw
  rintro V ⟨B0', M0', Z0', KV'⟩
  have HB0 := hidOf B0'
  have HM0 := hidOf M0'
  have HZ0 := hidOf Z0'
  have HKV := hidOf KV'
  clear B0' M0' Z0' KV'
  have hl1 : n1 ≤ 1000 := by have := HL.out; omega
  refine region_key (EndR b V.drew.heap.size V.drew a1 n1 c1 f.ps pr) ?_ ?_
  · have s1 : Sl V.drew a1 f.ps := HS.out.1.s.new HKV.out.drew
    have B0 : RW 44 V.drew b A := HB0.out
    have K0 : Kept [] V.drew V.drew := Kept.refl _ _
    refine wp_region_held_drew (S := fun w' => ∃ O, RW 44 w' b O ∧ O[3]? = some (.int .u64 pr)) (by kernel_rfl) ⟨A, B0, h3⟩ (fun hS => ?_)
    generalize V.drew = W at s1 B0 K0 hS ⊢
    refine wpAnyH_take (i := 1) (oi := { dst := some 10, op := Op.fieldAddr 44 (Operand.tmp 4) 7, type := 0, pos := "ref.go:35", after := #[], guard := none }) (v := Value.pointer (some ⟨b, 7, none⟩)) rfl (by kernel_rfl) (by kernel_rfl) (by kernel_rfl) (fun _ _ _ h => nomatch h.1) (Or.inl ⟨rfl, fun _ _ => by kernel_rfl⟩) hS ?_
    try simp only [Act.put, List.setIfInBounds_toArray, List.set_cons_zero, List.set_cons_succ]
    refine wpAnyH_take (i := 4) (oi := { dst := some 13, op := Op.fieldAddr 44 (Operand.tmp 4) 3, type := 0, pos := "ref.go:35", after := #[], guard := none }) (v := Value.pointer (some ⟨b, 3, none⟩)) rfl (by kernel_rfl) (by kernel_rfl) (by kernel_rfl) (fun _ _ _ h => nomatch h.1) (Or.inl ⟨rfl, fun _ _ => by kernel_rfl⟩) hS ?_
    try simp only [Act.put, List.setIfInBounds_toArray, List.set_cons_zero, List.set_cons_succ]
    refine wpAnyH_take (i := 5) (oi := { dst := some 14, op := Op.load 25 (Operand.tmp 13), type := 25, pos := "ref.go:35", after := #[{ on := 4, ground := Ground.data }], guard := none }) (v := Value.int .u64 pr) rfl (by kernel_rfl) (by kernel_rfl) (by kernel_rfl) (fun _ _ _ h => nomatch h.1) (Or.inl ⟨rfl, fun w hSw => by obtain ⟨O, z1, z2⟩ := hSw; have z := cell_of_blk z1 (i := 3) z2; go_simp⟩) hS ?_
    try simp only [Act.put, List.setIfInBounds_toArray, List.set_cons_zero, List.set_cons_succ]
    refine wpAnyH_ready (rs := [0, 2, 6]) (by kernel_rfl) (by simp) ?_
    refine AllReadyH.cons (o := { dst := some 9, op := Op.buildSlice 24 0 #[], type := 24, pos := "ref.go:35", after := #[], guard := none }) rfl (fun K hK => ?_) ?_
    · rw [if_pos (by rfl)]
      refine wp_lit0 rfl ?_
      intro v1 w2 O3 K5
      have K4 := K0.trans K5
      have BK4 := B0.kept K4 (by simp)
      have zK4 := K0.size
      have mK4 := K5.size
      try simp only [Act.put, List.setIfInBounds_toArray, List.set_cons_zero, List.set_cons_succ]
      refine hK.out _ _ (⟨_, BK4, h3⟩) (fun hS => ?_)
      clear hK K
      refine wpAnyH_ready (rs := [2, 6]) (by kernel_rfl) (by simp) ?_
      refine AllReadyH.cons (o := { dst := some 11, op := Op.load 24 (Operand.tmp 10), type := 24, pos := "ref.go:35", after := #[{ on := 1, ground := Ground.data }], guard := none }) rfl (fun K hK => ?_) ?_
      · rw [if_pos (by rfl)]
        refine wp_load_slice (.tmp 10) rfl b 7 rfl a1 n1 c1 (cell_of_blk BK4 (i := 7) h7) ?_
        try simp only [Act.put, List.setIfInBounds_toArray, List.set_cons_zero, List.set_cons_succ]
        refine hK.out _ _ (⟨_, BK4, h3⟩) (fun hS => ?_)
        clear hK K
        refine wpAnyH_ready (rs := [3, 6]) (by kernel_rfl) (by simp) ?_
        refine AllReadyH.cons (o := { dst := some 12, op := Op.call { callee := Callee.builtin Builtin.append, args := #[Operand.tmp 9, Operand.tmp 11], argTypes := #[24, 24] }, type := 24, pos := "ref.go:35", after := #[{ on := 0, ground := Ground.data }, { on := 2, ground := Ground.data }], guard := none }) rfl (fun K hK => ?_) ?_
        · rw [if_pos (by rfl)]
          refine wp_append_ws (v := v1) (.tmp 9) (.tmp 11) rfl rfl rfl hn1 O3 (s1.kept K4 (by simp)) hc1 mK4 (by simp; omega) ?_
          intro v6 w7 O8 K10
          rw [List.nil_append] at O8
          have K9 := Kept.ofOwnV K4 O3 zK4 K10
          have BK9 := B0.kept K9 (by simp)
          have mK9 := Nat.le_trans mK4 K10.size
          try simp only [Act.put, List.setIfInBounds_toArray, List.set_cons_zero, List.set_cons_succ]
          refine hK.out _ _ (⟨_, BK9, h3⟩) (fun hS => ?_)
          clear hK K
          refine wpAnyH_ready (rs := [6]) (by kernel_rfl) (by simp) ?_
          refine AllReadyH.cons (o := { dst := some 15, op := Op.buildSlice 24 1 #[(0, Operand.tmp 14)], type := 24, pos := "ref.go:35", after := #[{ on := 5, ground := Ground.data }], guard := none }) rfl (fun K hK => ?_) AllReadyH.nil
          rw [if_pos (by rfl)]
          refine wp_lit1 (.tmp 14) rfl pr rfl ?_
          intro ad11 w12 S13 L16 M17 K15
          have K14 := K9.trans K15
          have BK14 := B0.kept K14 (by simp)
          have lK14 := O8.base
          have OK14 := O8.new K15
          have aK14 : ∀ g, v6.ownBlock = some g → ¬ g = ad11.block := fun g h => by have := (lK14 g h).2; omega
          have mK14 := Nat.le_trans mK9 K15.size
          try simp only [Act.put, List.setIfInBounds_toArray, List.set_cons_zero, List.set_cons_succ]
          refine hK.out _ _ (⟨_, BK14, h3⟩) (fun hS => ?_)
          clear hK K
          refine wpAnyH_ready (rs := [7]) (by kernel_rfl) (by simp) ?_
          refine AllReadyH.cons (o := { dst := some 16, op := Op.call { callee := Callee.builtin Builtin.append, args := #[Operand.tmp 12, Operand.tmp 15], argTypes := #[24, 24] }, type := 24, pos := "ref.go:35", after := #[{ on := 3, ground := Ground.data }, { on := 6, ground := Ground.data }, { on := 3, ground := Ground.chain }], guard := none }) rfl (fun K hK => ?_) AllReadyH.nil
          rw [if_pos (by rfl)]
          refine wp_append_ws (v := v6) (.tmp 12) (.tmp 15) rfl rfl rfl (xs := [pr]) rfl OK14 S13 (fun e => by cases e) mK14 (by simp; omega) ?_
          intro v18 w19 O20 K22
          have K21 := Kept.ofOwnV K14 OK14 zK4 K22
          have BK21 := B0.kept K21 (by simp)
          obtain ⟨ao, cp, eK21, SS⟩ := O20.slb
          subst eK21
          try simp only [Act.put, List.setIfInBounds_toArray, List.set_cons_zero, List.set_cons_succ]
          refine hK.out _ _ (⟨_, BK21, h3⟩) (fun hS => ?_)
          clear hK K
          refine wpAnyH_take (i := 8) (oi := { dst := some 17, op := Op.fieldAddr 44 (Operand.tmp 4) 7, type := 0, pos := "ref.go:35", after := #[{ on := 0, ground := Ground.phase }, { on := 1, ground := Ground.phase }, { on := 2, ground := Ground.phase }, { on := 3, ground := Ground.phase }, { on := 4, ground := Ground.phase }, { on := 5, ground := Ground.phase }, { on := 6, ground := Ground.phase }, { on := 7, ground := Ground.phase }], guard := none }) (v := Value.pointer (some ⟨b, 7, none⟩)) rfl (by kernel_rfl) (by kernel_rfl) (by kernel_rfl) (fun _ _ _ h => nomatch h.1) (Or.inl ⟨rfl, fun _ _ => by kernel_rfl⟩) hS ?_
          try simp only [Act.put, List.setIfInBounds_toArray, List.set_cons_zero, List.set_cons_succ]
          refine wpAnyH_ready (rs := [9]) (by kernel_rfl) (by simp) ?_
          refine AllReadyH.cons (o := { dst := none, op := Op.store 24 (Operand.tmp 17) (Operand.tmp 16), type := 0, pos := "ref.go:35", after := #[{ on := 8, ground := Ground.data }, { on := 7, ground := Ground.data }, { on := 7, ground := Ground.chain }, { on := 0, ground := Ground.phase }, { on := 1, ground := Ground.phase }, { on := 2, ground := Ground.phase }, { on := 3, ground := Ground.phase }, { on := 4, ground := Ground.phase }, { on := 5, ground := Ground.phase }, { on := 6, ground := Ground.phase }, { on := 7, ground := Ground.phase }], guard := none }) rfl (fun K hK => ?_) AllReadyH.nil
          rw [if_pos (by rfl)]
          refine wp_store_slice 24 (.tmp 17) (.tmp 16) rfl b 7 rfl ao _ cp rfl BK21 (by omega) info_ws ?_
          simp only [Act.put]
          refine hK.out _ _ (⟨_, BK21.set 7 _, by simp [h3]⟩) (fun hS => ?_)
          clear hK K
          refine wpAnyH_done (by kernel_rfl) ?_ _
          refine ⟨rfl, v1, v6, .slice (some ad11) 1 1, ao, cp, ?_, _, rfl, SS.mono zK4, K21⟩
          simp only [Act.put, List.setIfInBounds_toArray, List.set_cons_zero, List.set_cons_succ]
        refine AllReadyH.cons (o := { dst := some 15, op := Op.buildSlice 24 1 #[(0, Operand.tmp 14)], type := 24, pos := "ref.go:35", after := #[{ on := 5, ground := Ground.data }], guard := none }) rfl (fun K hK => ?_) AllReadyH.nil
        rw [if_pos (by rfl)]
        refine wp_lit1 (.tmp 14) rfl pr rfl ?_
        intro ad23 w24 S25 L28 M29 K27
        have K26 := K4.trans K27
        have BK26 := B0.kept K26 (by simp)
        have lK26 := O3.base
        have OK26 := O3.new K27
        have aK26 : ∀ g, v1.ownBlock = some g → ¬ g = ad23.block := fun g h => by have := (lK26 g h).2; omega
        have mK26 := Nat.le_trans mK4 K27.size
        try simp only [Act.put, List.setIfInBounds_toArray, List.set_cons_zero, List.set_cons_succ]
        refine hK.out _ _ (⟨_, BK26, h3⟩) (fun hS => ?_)
        clear hK K
        refine wpAnyH_ready (rs := [3]) (by kernel_rfl) (by simp) ?_
        refine AllReadyH.cons (o := { dst := some 12, op := Op.call { callee := Callee.builtin Builtin.append, args := #[Operand.tmp 9, Operand.tmp 11], argTypes := #[24, 24] }, type := 24, pos := "ref.go:35", after := #[{ on := 0, ground := Ground.data }, { on := 2, ground := Ground.data }], guard := none }) rfl (fun K hK => ?_) AllReadyH.nil
        rw [if_pos (by rfl)]
        refine wp_append_ws (v := v1) (.tmp 9) (.tmp 11) rfl rfl rfl hn1 OK26 (s1.kept K26 (by simp)) hc1 mK26 (by simp; omega) ?_
        intro v30 w31 O32 K34
        rw [List.nil_append] at O32
        have K33 := Kept.ofOwnV K26 OK26 zK4 K34
        have BK33 := B0.kept K33 (by simp)
        have mK33 := Nat.le_trans mK26 K34.size
        have sK33 := S25.kept K34 (fun ad e hx => by cases e; exact aK26 _ (by simpa using hx) rfl)
        try simp only [Act.put, List.setIfInBounds_toArray, List.set_cons_zero, List.set_cons_succ]
        refine hK.out _ _ (⟨_, BK33, h3⟩) (fun hS => ?_)
        clear hK K
        refine wpAnyH_ready (rs := [7]) (by kernel_rfl) (by simp) ?_
        refine AllReadyH.cons (o := { dst := some 16, op := Op.call { callee := Callee.builtin Builtin.append, args := #[Operand.tmp 12, Operand.tmp 15], argTypes := #[24, 24] }, type := 24, pos := "ref.go:35", after := #[{ on := 3, ground := Ground.data }, { on := 6, ground := Ground.data }, { on := 3, ground := Ground.chain }], guard := none }) rfl (fun K hK => ?_) AllReadyH.nil
        rw [if_pos (by rfl)]
        refine wp_append_ws (v := v30) (.tmp 12) (.tmp 15) rfl rfl rfl (xs := [pr]) rfl O32 sK33 (fun e => by cases e) mK33 (by simp; omega) ?_
        intro v35 w36 O37 K39
        have K38 := Kept.ofOwnV K33 O32 zK4 K39
        have BK38 := B0.kept K38 (by simp)
        obtain ⟨ao, cp, eK38, SS⟩ := O37.slb
        subst eK38
        try simp only [Act.put, List.setIfInBounds_toArray, List.set_cons_zero, List.set_cons_succ]
        refine hK.out _ _ (⟨_, BK38, h3⟩) (fun hS => ?_)
        clear hK K
        refine wpAnyH_take (i := 8) (oi := { dst := some 17, op := Op.fieldAddr 44 (Operand.tmp 4) 7, type := 0, pos := "ref.go:35", after := #[{ on := 0, ground := Ground.phase }, { on := 1, ground := Ground.phase }, { on := 2, ground := Ground.phase }, { on := 3, ground := Ground.phase }, { on := 4, ground := Ground.phase }, { on := 5, ground := Ground.phase }, { on := 6, ground := Ground.phase }, { on := 7, ground := Ground.phase }], guard := none }) (v := Value.pointer (some ⟨b, 7, none⟩)) rfl (by kernel_rfl) (by kernel_rfl) (by kernel_rfl) (fun _ _ _ h => nomatch h.1) (Or.inl ⟨rfl, fun _ _ => by kernel_rfl⟩) hS ?_
        try simp only [Act.put, List.setIfInBounds_toArray, List.set_cons_zero, List.set_cons_succ]
        refine wpAnyH_ready (rs := [9]) (by kernel_rfl) (by simp) ?_
        refine AllReadyH.cons (o := { dst := none, op := Op.store 24 (Operand.tmp 17) (Operand.tmp 16), type := 0, pos := "ref.go:35", after := #[{ on := 8, ground := Ground.data }, { on := 7, ground := Ground.data }, { on := 7, ground := Ground.chain }, { on := 0, ground := Ground.phase }, { on := 1, ground := Ground.phase }, { on := 2, ground := Ground.phase }, { on := 3, ground := Ground.phase }, { on := 4, ground := Ground.phase }, { on := 5, ground := Ground.phase }, { on := 6, ground := Ground.phase }, { on := 7, ground := Ground.phase }], guard := none }) rfl (fun K hK => ?_) AllReadyH.nil
        rw [if_pos (by rfl)]
        refine wp_store_slice 24 (.tmp 17) (.tmp 16) rfl b 7 rfl ao _ cp rfl BK38 (by omega) info_ws ?_
        simp only [Act.put]
        refine hK.out _ _ (⟨_, BK38.set 7 _, by simp [h3]⟩) (fun hS => ?_)
        clear hK K
        refine wpAnyH_done (by kernel_rfl) ?_ _
        refine ⟨rfl, v1, v30, .slice (some ad23) 1 1, ao, cp, ?_, _, rfl, SS.mono zK4, K38⟩
        simp only [Act.put, List.setIfInBounds_toArray, List.set_cons_zero, List.set_cons_succ]
      refine AllReadyH.cons (o := { dst := some 15, op := Op.buildSlice 24 1 #[(0, Operand.tmp 14)], type := 24, pos := "ref.go:35", after := #[{ on := 5, ground := Ground.data }], guard := none }) rfl (fun K hK => ?_) AllReadyH.nil
      rw [if_pos (by rfl)]
      refine wp_lit1 (.tmp 14) rfl pr rfl ?_
      intro ad40 w41 S42 L45 M46 K44
      have K43 := K4.trans K44
      have BK43 := B0.kept K43 (by simp)
      have lK43 := O3.base
      have OK43 := O3.new K44
      have aK43 : ∀ g, v1.ownBlock = some g → ¬ g = ad40.block := fun g h => by have := (lK43 g h).2; omega
      have mK43 := Nat.le_trans mK4 K44.size
      try simp only [Act.put, List.setIfInBounds_toArray, List.set_cons_zero, List.set_cons_succ]
      refine hK.out _ _ (⟨_, BK43, h3⟩) (fun hS => ?_)
      clear hK K
      refine wpAnyH_ready (rs := [2]) (by kernel_rfl) (by simp) ?_
      refine AllReadyH.cons (o := { dst := some 11, op := Op.load 24 (Operand.tmp 10), type := 24, pos := "ref.go:35", after := #[{ on := 1, ground := Ground.data }], guard := none }) rfl (fun K hK => ?_) AllReadyH.nil
      rw [if_pos (by rfl)]
      refine wp_load_slice (.tmp 10) rfl b 7 rfl a1 n1 c1 (cell_of_blk BK43 (i := 7) h7) ?_
      try simp only [Act.put, List.setIfInBounds_toArray, List.set_cons_zero, List.set_cons_succ]
      refine hK.out _ _ (⟨_, BK43, h3⟩) (fun hS => ?_)
      clear hK K
      refine wpAnyH_ready (rs := [3]) (by kernel_rfl) (by simp) ?_
      refine AllReadyH.cons (o := { dst := some 12, op := Op.call { callee := Callee.builtin Builtin.append, args := #[Operand.tmp 9, Operand.tmp 11], argTypes := #[24, 24] }, type := 24, pos := "ref.go:35", after := #[{ on := 0, ground := Ground.data }, { on := 2, ground := Ground.data }], guard := none }) rfl (fun K hK => ?_) AllReadyH.nil
      rw [if_pos (by rfl)]
      refine wp_append_ws (v := v1) (.tmp 9) (.tmp 11) rfl rfl rfl hn1 OK43 (s1.kept K43 (by simp)) hc1 mK43 (by simp; omega) ?_
      intro v47 w48 O49 K51
      rw [List.nil_append] at O49
      have K50 := Kept.ofOwnV K43 OK43 zK4 K51
      have BK50 := B0.kept K50 (by simp)
      have mK50 := Nat.le_trans mK43 K51.size
      have sK50 := S42.kept K51 (fun ad e hx => by cases e; exact aK43 _ (by simpa using hx) rfl)
      try simp only [Act.put, List.setIfInBounds_toArray, List.set_cons_zero, List.set_cons_succ]
      refine hK.out _ _ (⟨_, BK50, h3⟩) (fun hS => ?_)
      clear hK K
      refine wpAnyH_ready (rs := [7]) (by kernel_rfl) (by simp) ?_
      refine AllReadyH.cons (o := { dst := some 16, op := Op.call { callee := Callee.builtin Builtin.append, args := #[Operand.tmp 12, Operand.tmp 15], argTypes := #[24, 24] }, type := 24, pos := "ref.go:35", after := #[{ on := 3, ground := Ground.data }, { on := 6, ground := Ground.data }, { on := 3, ground := Ground.chain }], guard := none }) rfl (fun K hK => ?_) AllReadyH.nil
      rw [if_pos (by rfl)]
      refine wp_append_ws (v := v47) (.tmp 12) (.tmp 15) rfl rfl rfl (xs := [pr]) rfl O49 sK50 (fun e => by cases e) mK50 (by simp; omega) ?_
      intro v52 w53 O54 K56
      have K55 := Kept.ofOwnV K50 O49 zK4 K56
      have BK55 := B0.kept K55 (by simp)
      obtain ⟨ao, cp, eK55, SS⟩ := O54.slb
      subst eK55
      try simp only [Act.put, List.setIfInBounds_toArray, List.set_cons_zero, List.set_cons_succ]
      refine hK.out _ _ (⟨_, BK55, h3⟩) (fun hS => ?_)
      clear hK K
      refine wpAnyH_take (i := 8) (oi := { dst := some 17, op := Op.fieldAddr 44 (Operand.tmp 4) 7, type := 0, pos := "ref.go:35", after := #[{ on := 0, ground := Ground.phase }, { on := 1, ground := Ground.phase }, { on := 2, ground := Ground.phase }, { on := 3, ground := Ground.phase }, { on := 4, ground := Ground.phase }, { on := 5, ground := Ground.phase }, { on := 6, ground := Ground.phase }, { on := 7, ground := Ground.phase }], guard := none }) (v := Value.pointer (some ⟨b, 7, none⟩)) rfl (by kernel_rfl) (by kernel_rfl) (by kernel_rfl) (fun _ _ _ h => nomatch h.1) (Or.inl ⟨rfl, fun _ _ => by kernel_rfl⟩) hS ?_
      try simp only [Act.put, List.setIfInBounds_toArray, List.set_cons_zero, List.set_cons_succ]
      refine wpAnyH_ready (rs := [9]) (by kernel_rfl) (by simp) ?_
      refine AllReadyH.cons (o := { dst := none, op := Op.store 24 (Operand.tmp 17) (Operand.tmp 16), type := 0, pos := "ref.go:35", after := #[{ on := 8, ground := Ground.data }, { on := 7, ground := Ground.data }, { on := 7, ground := Ground.chain }, { on := 0, ground := Ground.phase }, { on := 1, ground := Ground.phase }, { on := 2, ground := Ground.phase }, { on := 3, ground := Ground.phase }, { on := 4, ground := Ground.phase }, { on := 5, ground := Ground.phase }, { on := 6, ground := Ground.phase }, { on := 7, ground := Ground.phase }], guard := none }) rfl (fun K hK => ?_) AllReadyH.nil
      rw [if_pos (by rfl)]
      refine wp_store_slice 24 (.tmp 17) (.tmp 16) rfl b 7 rfl ao _ cp rfl BK55 (by omega) info_ws ?_
      simp only [Act.put]
      refine hK.out _ _ (⟨_, BK55.set 7 _, by simp [h3]⟩) (fun hS => ?_)
      clear hK K
      refine wpAnyH_done (by kernel_rfl) ?_ _
      refine ⟨rfl, v1, v47, .slice (some ad40) 1 1, ao, cp, ?_, _, rfl, SS.mono zK4, K55⟩
      simp only [Act.put, List.setIfInBounds_toArray, List.set_cons_zero, List.set_cons_succ]
    refine AllReadyH.cons (o := { dst := some 11, op := Op.load 24 (Operand.tmp 10), type := 24, pos := "ref.go:35", after := #[{ on := 1, ground := Ground.data }], guard := none }) rfl (fun K hK => ?_) ?_
    · rw [if_pos (by rfl)]
      refine wp_load_slice (.tmp 10) rfl b 7 rfl a1 n1 c1 (cell_of_blk B0 (i := 7) h7) ?_
      try simp only [Act.put, List.setIfInBounds_toArray, List.set_cons_zero, List.set_cons_succ]
      refine hK.out _ _ (⟨_, B0, h3⟩) (fun hS => ?_)
      clear hK K
      refine wpAnyH_ready (rs := [0, 6]) (by kernel_rfl) (by simp) ?_
      refine AllReadyH.cons (o := { dst := some 9, op := Op.buildSlice 24 0 #[], type := 24, pos := "ref.go:35", after := #[], guard := none }) rfl (fun K hK => ?_) ?_
      · rw [if_pos (by rfl)]
        refine wp_lit0 rfl ?_
        intro v57 w58 O59 K61
        have K60 := K0.trans K61
        have BK60 := B0.kept K60 (by simp)
        have zK60 := K0.size
        have mK60 := K61.size
        try simp only [Act.put, List.setIfInBounds_toArray, List.set_cons_zero, List.set_cons_succ]
        refine hK.out _ _ (⟨_, BK60, h3⟩) (fun hS => ?_)
        clear hK K
        refine wpAnyH_ready (rs := [3, 6]) (by kernel_rfl) (by simp) ?_
        refine AllReadyH.cons (o := { dst := some 12, op := Op.call { callee := Callee.builtin Builtin.append, args := #[Operand.tmp 9, Operand.tmp 11], argTypes := #[24, 24] }, type := 24, pos := "ref.go:35", after := #[{ on := 0, ground := Ground.data }, { on := 2, ground := Ground.data }], guard := none }) rfl (fun K hK => ?_) ?_
        · rw [if_pos (by rfl)]
          refine wp_append_ws (v := v57) (.tmp 9) (.tmp 11) rfl rfl rfl hn1 O59 (s1.kept K60 (by simp)) hc1 mK60 (by simp; omega) ?_
          intro v62 w63 O64 K66
          rw [List.nil_append] at O64
          have K65 := Kept.ofOwnV K60 O59 zK60 K66
          have BK65 := B0.kept K65 (by simp)
          have mK65 := Nat.le_trans mK60 K66.size
          try simp only [Act.put, List.setIfInBounds_toArray, List.set_cons_zero, List.set_cons_succ]
          refine hK.out _ _ (⟨_, BK65, h3⟩) (fun hS => ?_)
          clear hK K
          refine wpAnyH_ready (rs := [6]) (by kernel_rfl) (by simp) ?_
          refine AllReadyH.cons (o := { dst := some 15, op := Op.buildSlice 24 1 #[(0, Operand.tmp 14)], type := 24, pos := "ref.go:35", after := #[{ on := 5, ground := Ground.data }], guard := none }) rfl (fun K hK => ?_) AllReadyH.nil
          rw [if_pos (by rfl)]
          refine wp_lit1 (.tmp 14) rfl pr rfl ?_
          intro ad67 w68 S69 L72 M73 K71
          have K70 := K65.trans K71
          have BK70 := B0.kept K70 (by simp)
          have lK70 := O64.base
          have OK70 := O64.new K71
          have aK70 : ∀ g, v62.ownBlock = some g → ¬ g = ad67.block := fun g h => by have := (lK70 g h).2; omega
          have mK70 := Nat.le_trans mK65 K71.size
          try simp only [Act.put, List.setIfInBounds_toArray, List.set_cons_zero, List.set_cons_succ]
          refine hK.out _ _ (⟨_, BK70, h3⟩) (fun hS => ?_)
          clear hK K
          refine wpAnyH_ready (rs := [7]) (by kernel_rfl) (by simp) ?_
          refine AllReadyH.cons (o := { dst := some 16, op := Op.call { callee := Callee.builtin Builtin.append, args := #[Operand.tmp 12, Operand.tmp 15], argTypes := #[24, 24] }, type := 24, pos := "ref.go:35", after := #[{ on := 3, ground := Ground.data }, { on := 6, ground := Ground.data }, { on := 3, ground := Ground.chain }], guard := none }) rfl (fun K hK => ?_) AllReadyH.nil
          rw [if_pos (by rfl)]
          refine wp_append_ws (v := v62) (.tmp 12) (.tmp 15) rfl rfl rfl (xs := [pr]) rfl OK70 S69 (fun e => by cases e) mK70 (by simp; omega) ?_
          intro v74 w75 O76 K78
          have K77 := Kept.ofOwnV K70 OK70 zK60 K78
          have BK77 := B0.kept K77 (by simp)
          obtain ⟨ao, cp, eK77, SS⟩ := O76.slb
          subst eK77
          try simp only [Act.put, List.setIfInBounds_toArray, List.set_cons_zero, List.set_cons_succ]
          refine hK.out _ _ (⟨_, BK77, h3⟩) (fun hS => ?_)
          clear hK K
          refine wpAnyH_take (i := 8) (oi := { dst := some 17, op := Op.fieldAddr 44 (Operand.tmp 4) 7, type := 0, pos := "ref.go:35", after := #[{ on := 0, ground := Ground.phase }, { on := 1, ground := Ground.phase }, { on := 2, ground := Ground.phase }, { on := 3, ground := Ground.phase }, { on := 4, ground := Ground.phase }, { on := 5, ground := Ground.phase }, { on := 6, ground := Ground.phase }, { on := 7, ground := Ground.phase }], guard := none }) (v := Value.pointer (some ⟨b, 7, none⟩)) rfl (by kernel_rfl) (by kernel_rfl) (by kernel_rfl) (fun _ _ _ h => nomatch h.1) (Or.inl ⟨rfl, fun _ _ => by kernel_rfl⟩) hS ?_
          try simp only [Act.put, List.setIfInBounds_toArray, List.set_cons_zero, List.set_cons_succ]
          refine wpAnyH_ready (rs := [9]) (by kernel_rfl) (by simp) ?_
          refine AllReadyH.cons (o := { dst := none, op := Op.store 24 (Operand.tmp 17) (Operand.tmp 16), type := 0, pos := "ref.go:35", after := #[{ on := 8, ground := Ground.data }, { on := 7, ground := Ground.data }, { on := 7, ground := Ground.chain }, { on := 0, ground := Ground.phase }, { on := 1, ground := Ground.phase }, { on := 2, ground := Ground.phase }, { on := 3, ground := Ground.phase }, { on := 4, ground := Ground.phase }, { on := 5, ground := Ground.phase }, { on := 6, ground := Ground.phase }, { on := 7, ground := Ground.phase }], guard := none }) rfl (fun K hK => ?_) AllReadyH.nil
          rw [if_pos (by rfl)]
          refine wp_store_slice 24 (.tmp 17) (.tmp 16) rfl b 7 rfl ao _ cp rfl BK77 (by omega) info_ws ?_
          simp only [Act.put]
          refine hK.out _ _ (⟨_, BK77.set 7 _, by simp [h3]⟩) (fun hS => ?_)
          clear hK K
          refine wpAnyH_done (by kernel_rfl) ?_ _
          refine ⟨rfl, v57, v62, .slice (some ad67) 1 1, ao, cp, ?_, _, rfl, SS.mono zK60, K77⟩
          simp only [Act.put, List.setIfInBounds_toArray, List.set_cons_zero, List.set_cons_succ]
        refine AllReadyH.cons (o := { dst := some 15, op := Op.buildSlice 24 1 #[(0, Operand.tmp 14)], type := 24, pos := "ref.go:35", after := #[{ on := 5, ground := Ground.data }], guard := none }) rfl (fun K hK => ?_) AllReadyH.nil
        rw [if_pos (by rfl)]
        refine wp_lit1 (.tmp 14) rfl pr rfl ?_
        intro ad79 w80 S81 L84 M85 K83
        have K82 := K60.trans K83
        have BK82 := B0.kept K82 (by simp)
        have lK82 := O59.base
        have OK82 := O59.new K83
        have aK82 : ∀ g, v57.ownBlock = some g → ¬ g = ad79.block := fun g h => by have := (lK82 g h).2; omega
        have mK82 := Nat.le_trans mK60 K83.size
        try simp only [Act.put, List.setIfInBounds_toArray, List.set_cons_zero, List.set_cons_succ]
        refine hK.out _ _ (⟨_, BK82, h3⟩) (fun hS => ?_)
        clear hK K
        refine wpAnyH_ready (rs := [3]) (by kernel_rfl) (by simp) ?_
        refine AllReadyH.cons (o := { dst := some 12, op := Op.call { callee := Callee.builtin Builtin.append, args := #[Operand.tmp 9, Operand.tmp 11], argTypes := #[24, 24] }, type := 24, pos := "ref.go:35", after := #[{ on := 0, ground := Ground.data }, { on := 2, ground := Ground.data }], guard := none }) rfl (fun K hK => ?_) AllReadyH.nil
        rw [if_pos (by rfl)]
        refine wp_append_ws (v := v57) (.tmp 9) (.tmp 11) rfl rfl rfl hn1 OK82 (s1.kept K82 (by simp)) hc1 mK82 (by simp; omega) ?_
        intro v86 w87 O88 K90
        rw [List.nil_append] at O88
        have K89 := Kept.ofOwnV K82 OK82 zK60 K90
        have BK89 := B0.kept K89 (by simp)
        have mK89 := Nat.le_trans mK82 K90.size
        have sK89 := S81.kept K90 (fun ad e hx => by cases e; exact aK82 _ (by simpa using hx) rfl)
        try simp only [Act.put, List.setIfInBounds_toArray, List.set_cons_zero, List.set_cons_succ]
        refine hK.out _ _ (⟨_, BK89, h3⟩) (fun hS => ?_)
        clear hK K
        refine wpAnyH_ready (rs := [7]) (by kernel_rfl) (by simp) ?_
        refine AllReadyH.cons (o := { dst := some 16, op := Op.call { callee := Callee.builtin Builtin.append, args := #[Operand.tmp 12, Operand.tmp 15], argTypes := #[24, 24] }, type := 24, pos := "ref.go:35", after := #[{ on := 3, ground := Ground.data }, { on := 6, ground := Ground.data }, { on := 3, ground := Ground.chain }], guard := none }) rfl (fun K hK => ?_) AllReadyH.nil
        rw [if_pos (by rfl)]
        refine wp_append_ws (v := v86) (.tmp 12) (.tmp 15) rfl rfl rfl (xs := [pr]) rfl O88 sK89 (fun e => by cases e) mK89 (by simp; omega) ?_
        intro v91 w92 O93 K95
        have K94 := Kept.ofOwnV K89 O88 zK60 K95
        have BK94 := B0.kept K94 (by simp)
        obtain ⟨ao, cp, eK94, SS⟩ := O93.slb
        subst eK94
        try simp only [Act.put, List.setIfInBounds_toArray, List.set_cons_zero, List.set_cons_succ]
        refine hK.out _ _ (⟨_, BK94, h3⟩) (fun hS => ?_)
        clear hK K
        refine wpAnyH_take (i := 8) (oi := { dst := some 17, op := Op.fieldAddr 44 (Operand.tmp 4) 7, type := 0, pos := "ref.go:35", after := #[{ on := 0, ground := Ground.phase }, { on := 1, ground := Ground.phase }, { on := 2, ground := Ground.phase }, { on := 3, ground := Ground.phase }, { on := 4, ground := Ground.phase }, { on := 5, ground := Ground.phase }, { on := 6, ground := Ground.phase }, { on := 7, ground := Ground.phase }], guard := none }) (v := Value.pointer (some ⟨b, 7, none⟩)) rfl (by kernel_rfl) (by kernel_rfl) (by kernel_rfl) (fun _ _ _ h => nomatch h.1) (Or.inl ⟨rfl, fun _ _ => by kernel_rfl⟩) hS ?_
        try simp only [Act.put, List.setIfInBounds_toArray, List.set_cons_zero, List.set_cons_succ]
        refine wpAnyH_ready (rs := [9]) (by kernel_rfl) (by simp) ?_
        refine AllReadyH.cons (o := { dst := none, op := Op.store 24 (Operand.tmp 17) (Operand.tmp 16), type := 0, pos := "ref.go:35", after := #[{ on := 8, ground := Ground.data }, { on := 7, ground := Ground.data }, { on := 7, ground := Ground.chain }, { on := 0, ground := Ground.phase }, { on := 1, ground := Ground.phase }, { on := 2, ground := Ground.phase }, { on := 3, ground := Ground.phase }, { on := 4, ground := Ground.phase }, { on := 5, ground := Ground.phase }, { on := 6, ground := Ground.phase }, { on := 7, ground := Ground.phase }], guard := none }) rfl (fun K hK => ?_) AllReadyH.nil
        rw [if_pos (by rfl)]
        refine wp_store_slice 24 (.tmp 17) (.tmp 16) rfl b 7 rfl ao _ cp rfl BK94 (by omega) info_ws ?_
        simp only [Act.put]
        refine hK.out _ _ (⟨_, BK94.set 7 _, by simp [h3]⟩) (fun hS => ?_)
        clear hK K
        refine wpAnyH_done (by kernel_rfl) ?_ _
        refine ⟨rfl, v57, v86, .slice (some ad79) 1 1, ao, cp, ?_, _, rfl, SS.mono zK60, K94⟩
        simp only [Act.put, List.setIfInBounds_toArray, List.set_cons_zero, List.set_cons_succ]
      refine AllReadyH.cons (o := { dst := some 15, op := Op.buildSlice 24 1 #[(0, Operand.tmp 14)], type := 24, pos := "ref.go:35", after := #[{ on := 5, ground := Ground.data }], guard := none }) rfl (fun K hK => ?_) AllReadyH.nil
      rw [if_pos (by rfl)]
      refine wp_lit1 (.tmp 14) rfl pr rfl ?_
      intro ad96 w97 S98 L101 M102 K100
      have K99 := K0.trans K100
      have BK99 := B0.kept K99 (by simp)
      try simp only [Act.put, List.setIfInBounds_toArray, List.set_cons_zero, List.set_cons_succ]
      refine hK.out _ _ (⟨_, BK99, h3⟩) (fun hS => ?_)
      clear hK K
      refine wpAnyH_ready (rs := [0]) (by kernel_rfl) (by simp) ?_
      refine AllReadyH.cons (o := { dst := some 9, op := Op.buildSlice 24 0 #[], type := 24, pos := "ref.go:35", after := #[], guard := none }) rfl (fun K hK => ?_) AllReadyH.nil
      rw [if_pos (by rfl)]
      refine wp_lit0 rfl ?_
      intro v103 w104 O105 K107
      have K106 := K99.trans K107
      have BK106 := B0.kept K106 (by simp)
      have zK106 := K99.size
      have mK106 := K107.size
      have sK106 := S98.new K107
      have lK106 := O105.base
      have aK106 : ∀ g, v103.ownBlock = some g → ¬ g = ad96.block := fun g h => by have := (lK106 g h).1; have := M102; omega
      try simp only [Act.put, List.setIfInBounds_toArray, List.set_cons_zero, List.set_cons_succ]
      refine hK.out _ _ (⟨_, BK106, h3⟩) (fun hS => ?_)
      clear hK K
      refine wpAnyH_ready (rs := [3]) (by kernel_rfl) (by simp) ?_
      refine AllReadyH.cons (o := { dst := some 12, op := Op.call { callee := Callee.builtin Builtin.append, args := #[Operand.tmp 9, Operand.tmp 11], argTypes := #[24, 24] }, type := 24, pos := "ref.go:35", after := #[{ on := 0, ground := Ground.data }, { on := 2, ground := Ground.data }], guard := none }) rfl (fun K hK => ?_) AllReadyH.nil
      rw [if_pos (by rfl)]
      refine wp_append_ws (v := v103) (.tmp 9) (.tmp 11) rfl rfl rfl hn1 O105 (s1.kept K106 (by simp)) hc1 mK106 (by simp; omega) ?_
      intro v108 w109 O110 K112
      rw [List.nil_append] at O110
      have K111 := Kept.ofOwnV K106 O105 zK106 K112
      have BK111 := B0.kept K111 (by simp)
      have mK111 := Nat.le_trans mK106 K112.size
      have sK111 := sK106.kept K112 (fun ad e hx => by cases e; exact aK106 _ (by simpa using hx) rfl)
      try simp only [Act.put, List.setIfInBounds_toArray, List.set_cons_zero, List.set_cons_succ]
      refine hK.out _ _ (⟨_, BK111, h3⟩) (fun hS => ?_)
      clear hK K
      refine wpAnyH_ready (rs := [7]) (by kernel_rfl) (by simp) ?_
      refine AllReadyH.cons (o := { dst := some 16, op := Op.call { callee := Callee.builtin Builtin.append, args := #[Operand.tmp 12, Operand.tmp 15], argTypes := #[24, 24] }, type := 24, pos := "ref.go:35", after := #[{ on := 3, ground := Ground.data }, { on := 6, ground := Ground.data }, { on := 3, ground := Ground.chain }], guard := none }) rfl (fun K hK => ?_) AllReadyH.nil
      rw [if_pos (by rfl)]
      refine wp_append_ws (v := v108) (.tmp 12) (.tmp 15) rfl rfl rfl (xs := [pr]) rfl O110 sK111 (fun e => by cases e) mK111 (by simp; omega) ?_
      intro v113 w114 O115 K117
      have K116 := Kept.ofOwnV K111 O110 zK106 K117
      have BK116 := B0.kept K116 (by simp)
      obtain ⟨ao, cp, eK116, SS⟩ := O115.slb
      subst eK116
      try simp only [Act.put, List.setIfInBounds_toArray, List.set_cons_zero, List.set_cons_succ]
      refine hK.out _ _ (⟨_, BK116, h3⟩) (fun hS => ?_)
      clear hK K
      refine wpAnyH_take (i := 8) (oi := { dst := some 17, op := Op.fieldAddr 44 (Operand.tmp 4) 7, type := 0, pos := "ref.go:35", after := #[{ on := 0, ground := Ground.phase }, { on := 1, ground := Ground.phase }, { on := 2, ground := Ground.phase }, { on := 3, ground := Ground.phase }, { on := 4, ground := Ground.phase }, { on := 5, ground := Ground.phase }, { on := 6, ground := Ground.phase }, { on := 7, ground := Ground.phase }], guard := none }) (v := Value.pointer (some ⟨b, 7, none⟩)) rfl (by kernel_rfl) (by kernel_rfl) (by kernel_rfl) (fun _ _ _ h => nomatch h.1) (Or.inl ⟨rfl, fun _ _ => by kernel_rfl⟩) hS ?_
      try simp only [Act.put, List.setIfInBounds_toArray, List.set_cons_zero, List.set_cons_succ]
      refine wpAnyH_ready (rs := [9]) (by kernel_rfl) (by simp) ?_
      refine AllReadyH.cons (o := { dst := none, op := Op.store 24 (Operand.tmp 17) (Operand.tmp 16), type := 0, pos := "ref.go:35", after := #[{ on := 8, ground := Ground.data }, { on := 7, ground := Ground.data }, { on := 7, ground := Ground.chain }, { on := 0, ground := Ground.phase }, { on := 1, ground := Ground.phase }, { on := 2, ground := Ground.phase }, { on := 3, ground := Ground.phase }, { on := 4, ground := Ground.phase }, { on := 5, ground := Ground.phase }, { on := 6, ground := Ground.phase }, { on := 7, ground := Ground.phase }], guard := none }) rfl (fun K hK => ?_) AllReadyH.nil
      rw [if_pos (by rfl)]
      refine wp_store_slice 24 (.tmp 17) (.tmp 16) rfl b 7 rfl ao _ cp rfl BK116 (by omega) info_ws ?_
      simp only [Act.put]
      refine hK.out _ _ (⟨_, BK116.set 7 _, by simp [h3]⟩) (fun hS => ?_)
      clear hK K
      refine wpAnyH_done (by kernel_rfl) ?_ _
      refine ⟨rfl, v103, v108, .slice (some ad96) 1 1, ao, cp, ?_, _, rfl, SS.mono zK106, K116⟩
      simp only [Act.put, List.setIfInBounds_toArray, List.set_cons_zero, List.set_cons_succ]
    refine AllReadyH.cons (o := { dst := some 15, op := Op.buildSlice 24 1 #[(0, Operand.tmp 14)], type := 24, pos := "ref.go:35", after := #[{ on := 5, ground := Ground.data }], guard := none }) rfl (fun K hK => ?_) AllReadyH.nil
    rw [if_pos (by rfl)]
    refine wp_lit1 (.tmp 14) rfl pr rfl ?_
    intro ad118 w119 S120 L123 M124 K122
    have K121 := K0.trans K122
    have BK121 := B0.kept K121 (by simp)
    try simp only [Act.put, List.setIfInBounds_toArray, List.set_cons_zero, List.set_cons_succ]
    refine hK.out _ _ (⟨_, BK121, h3⟩) (fun hS => ?_)
    clear hK K
    refine wpAnyH_ready (rs := [0, 2]) (by kernel_rfl) (by simp) ?_
    refine AllReadyH.cons (o := { dst := some 9, op := Op.buildSlice 24 0 #[], type := 24, pos := "ref.go:35", after := #[], guard := none }) rfl (fun K hK => ?_) ?_
    · rw [if_pos (by rfl)]
      refine wp_lit0 rfl ?_
      intro v125 w126 O127 K129
      have K128 := K121.trans K129
      have BK128 := B0.kept K128 (by simp)
      have zK128 := K121.size
      have mK128 := K129.size
      have sK128 := S120.new K129
      have lK128 := O127.base
      have aK128 : ∀ g, v125.ownBlock = some g → ¬ g = ad118.block := fun g h => by have := (lK128 g h).1; have := M124; omega
      try simp only [Act.put, List.setIfInBounds_toArray, List.set_cons_zero, List.set_cons_succ]
      refine hK.out _ _ (⟨_, BK128, h3⟩) (fun hS => ?_)
      clear hK K
      refine wpAnyH_ready (rs := [2]) (by kernel_rfl) (by simp) ?_
      refine AllReadyH.cons (o := { dst := some 11, op := Op.load 24 (Operand.tmp 10), type := 24, pos := "ref.go:35", after := #[{ on := 1, ground := Ground.data }], guard := none }) rfl (fun K hK => ?_) AllReadyH.nil
      rw [if_pos (by rfl)]
      refine wp_load_slice (.tmp 10) rfl b 7 rfl a1 n1 c1 (cell_of_blk BK128 (i := 7) h7) ?_
      try simp only [Act.put, List.setIfInBounds_toArray, List.set_cons_zero, List.set_cons_succ]
      refine hK.out _ _ (⟨_, BK128, h3⟩) (fun hS => ?_)
      clear hK K
      refine wpAnyH_ready (rs := [3]) (by kernel_rfl) (by simp) ?_
      refine AllReadyH.cons (o := { dst := some 12, op := Op.call { callee := Callee.builtin Builtin.append, args := #[Operand.tmp 9, Operand.tmp 11], argTypes := #[24, 24] }, type := 24, pos := "ref.go:35", after := #[{ on := 0, ground := Ground.data }, { on := 2, ground := Ground.data }], guard := none }) rfl (fun K hK => ?_) AllReadyH.nil
      rw [if_pos (by rfl)]
      refine wp_append_ws (v := v125) (.tmp 9) (.tmp 11) rfl rfl rfl hn1 O127 (s1.kept K128 (by simp)) hc1 mK128 (by simp; omega) ?_
      intro v130 w131 O132 K134
      rw [List.nil_append] at O132
      have K133 := Kept.ofOwnV K128 O127 zK128 K134
      have BK133 := B0.kept K133 (by simp)
      have mK133 := Nat.le_trans mK128 K134.size
      have sK133 := sK128.kept K134 (fun ad e hx => by cases e; exact aK128 _ (by simpa using hx) rfl)
      try simp only [Act.put, List.setIfInBounds_toArray, List.set_cons_zero, List.set_cons_succ]
      refine hK.out _ _ (⟨_, BK133, h3⟩) (fun hS => ?_)
      clear hK K
      refine wpAnyH_ready (rs := [7]) (by kernel_rfl) (by simp) ?_
      refine AllReadyH.cons (o := { dst := some 16, op := Op.call { callee := Callee.builtin Builtin.append, args := #[Operand.tmp 12, Operand.tmp 15], argTypes := #[24, 24] }, type := 24, pos := "ref.go:35", after := #[{ on := 3, ground := Ground.data }, { on := 6, ground := Ground.data }, { on := 3, ground := Ground.chain }], guard := none }) rfl (fun K hK => ?_) AllReadyH.nil
      rw [if_pos (by rfl)]
      refine wp_append_ws (v := v130) (.tmp 12) (.tmp 15) rfl rfl rfl (xs := [pr]) rfl O132 sK133 (fun e => by cases e) mK133 (by simp; omega) ?_
      intro v135 w136 O137 K139
      have K138 := Kept.ofOwnV K133 O132 zK128 K139
      have BK138 := B0.kept K138 (by simp)
      obtain ⟨ao, cp, eK138, SS⟩ := O137.slb
      subst eK138
      try simp only [Act.put, List.setIfInBounds_toArray, List.set_cons_zero, List.set_cons_succ]
      refine hK.out _ _ (⟨_, BK138, h3⟩) (fun hS => ?_)
      clear hK K
      refine wpAnyH_take (i := 8) (oi := { dst := some 17, op := Op.fieldAddr 44 (Operand.tmp 4) 7, type := 0, pos := "ref.go:35", after := #[{ on := 0, ground := Ground.phase }, { on := 1, ground := Ground.phase }, { on := 2, ground := Ground.phase }, { on := 3, ground := Ground.phase }, { on := 4, ground := Ground.phase }, { on := 5, ground := Ground.phase }, { on := 6, ground := Ground.phase }, { on := 7, ground := Ground.phase }], guard := none }) (v := Value.pointer (some ⟨b, 7, none⟩)) rfl (by kernel_rfl) (by kernel_rfl) (by kernel_rfl) (fun _ _ _ h => nomatch h.1) (Or.inl ⟨rfl, fun _ _ => by kernel_rfl⟩) hS ?_
      try simp only [Act.put, List.setIfInBounds_toArray, List.set_cons_zero, List.set_cons_succ]
      refine wpAnyH_ready (rs := [9]) (by kernel_rfl) (by simp) ?_
      refine AllReadyH.cons (o := { dst := none, op := Op.store 24 (Operand.tmp 17) (Operand.tmp 16), type := 0, pos := "ref.go:35", after := #[{ on := 8, ground := Ground.data }, { on := 7, ground := Ground.data }, { on := 7, ground := Ground.chain }, { on := 0, ground := Ground.phase }, { on := 1, ground := Ground.phase }, { on := 2, ground := Ground.phase }, { on := 3, ground := Ground.phase }, { on := 4, ground := Ground.phase }, { on := 5, ground := Ground.phase }, { on := 6, ground := Ground.phase }, { on := 7, ground := Ground.phase }], guard := none }) rfl (fun K hK => ?_) AllReadyH.nil
      rw [if_pos (by rfl)]
      refine wp_store_slice 24 (.tmp 17) (.tmp 16) rfl b 7 rfl ao _ cp rfl BK138 (by omega) info_ws ?_
      simp only [Act.put]
      refine hK.out _ _ (⟨_, BK138.set 7 _, by simp [h3]⟩) (fun hS => ?_)
      clear hK K
      refine wpAnyH_done (by kernel_rfl) ?_ _
      refine ⟨rfl, v125, v130, .slice (some ad118) 1 1, ao, cp, ?_, _, rfl, SS.mono zK128, K138⟩
      simp only [Act.put, List.setIfInBounds_toArray, List.set_cons_zero, List.set_cons_succ]
    refine AllReadyH.cons (o := { dst := some 11, op := Op.load 24 (Operand.tmp 10), type := 24, pos := "ref.go:35", after := #[{ on := 1, ground := Ground.data }], guard := none }) rfl (fun K hK => ?_) AllReadyH.nil
    rw [if_pos (by rfl)]
    refine wp_load_slice (.tmp 10) rfl b 7 rfl a1 n1 c1 (cell_of_blk BK121 (i := 7) h7) ?_
    try simp only [Act.put, List.setIfInBounds_toArray, List.set_cons_zero, List.set_cons_succ]
    refine hK.out _ _ (⟨_, BK121, h3⟩) (fun hS => ?_)
    clear hK K
    refine wpAnyH_ready (rs := [0]) (by kernel_rfl) (by simp) ?_
    refine AllReadyH.cons (o := { dst := some 9, op := Op.buildSlice 24 0 #[], type := 24, pos := "ref.go:35", after := #[], guard := none }) rfl (fun K hK => ?_) AllReadyH.nil
    rw [if_pos (by rfl)]
    refine wp_lit0 rfl ?_
    intro v140 w141 O142 K144
    have K143 := K121.trans K144
    have BK143 := B0.kept K143 (by simp)
    have zK143 := K121.size
    have mK143 := K144.size
    have sK143 := S120.new K144
    have lK143 := O142.base
    have aK143 : ∀ g, v140.ownBlock = some g → ¬ g = ad118.block := fun g h => by have := (lK143 g h).1; have := M124; omega
    try simp only [Act.put, List.setIfInBounds_toArray, List.set_cons_zero, List.set_cons_succ]
    refine hK.out _ _ (⟨_, BK143, h3⟩) (fun hS => ?_)
    clear hK K
    refine wpAnyH_ready (rs := [3]) (by kernel_rfl) (by simp) ?_
    refine AllReadyH.cons (o := { dst := some 12, op := Op.call { callee := Callee.builtin Builtin.append, args := #[Operand.tmp 9, Operand.tmp 11], argTypes := #[24, 24] }, type := 24, pos := "ref.go:35", after := #[{ on := 0, ground := Ground.data }, { on := 2, ground := Ground.data }], guard := none }) rfl (fun K hK => ?_) AllReadyH.nil
    rw [if_pos (by rfl)]
    refine wp_append_ws (v := v140) (.tmp 9) (.tmp 11) rfl rfl rfl hn1 O142 (s1.kept K143 (by simp)) hc1 mK143 (by simp; omega) ?_
    intro v145 w146 O147 K149
    rw [List.nil_append] at O147
    have K148 := Kept.ofOwnV K143 O142 zK143 K149
    have BK148 := B0.kept K148 (by simp)
    have mK148 := Nat.le_trans mK143 K149.size
    have sK148 := sK143.kept K149 (fun ad e hx => by cases e; exact aK143 _ (by simpa using hx) rfl)
    try simp only [Act.put, List.setIfInBounds_toArray, List.set_cons_zero, List.set_cons_succ]
    refine hK.out _ _ (⟨_, BK148, h3⟩) (fun hS => ?_)
    clear hK K
    refine wpAnyH_ready (rs := [7]) (by kernel_rfl) (by simp) ?_
    refine AllReadyH.cons (o := { dst := some 16, op := Op.call { callee := Callee.builtin Builtin.append, args := #[Operand.tmp 12, Operand.tmp 15], argTypes := #[24, 24] }, type := 24, pos := "ref.go:35", after := #[{ on := 3, ground := Ground.data }, { on := 6, ground := Ground.data }, { on := 3, ground := Ground.chain }], guard := none }) rfl (fun K hK => ?_) AllReadyH.nil
    rw [if_pos (by rfl)]
    refine wp_append_ws (v := v145) (.tmp 12) (.tmp 15) rfl rfl rfl (xs := [pr]) rfl O147 sK148 (fun e => by cases e) mK148 (by simp; omega) ?_
    intro v150 w151 O152 K154
    have K153 := Kept.ofOwnV K148 O147 zK143 K154
    have BK153 := B0.kept K153 (by simp)
    obtain ⟨ao, cp, eK153, SS⟩ := O152.slb
    subst eK153
    try simp only [Act.put, List.setIfInBounds_toArray, List.set_cons_zero, List.set_cons_succ]
    refine hK.out _ _ (⟨_, BK153, h3⟩) (fun hS => ?_)
    clear hK K
    refine wpAnyH_take (i := 8) (oi := { dst := some 17, op := Op.fieldAddr 44 (Operand.tmp 4) 7, type := 0, pos := "ref.go:35", after := #[{ on := 0, ground := Ground.phase }, { on := 1, ground := Ground.phase }, { on := 2, ground := Ground.phase }, { on := 3, ground := Ground.phase }, { on := 4, ground := Ground.phase }, { on := 5, ground := Ground.phase }, { on := 6, ground := Ground.phase }, { on := 7, ground := Ground.phase }], guard := none }) (v := Value.pointer (some ⟨b, 7, none⟩)) rfl (by kernel_rfl) (by kernel_rfl) (by kernel_rfl) (fun _ _ _ h => nomatch h.1) (Or.inl ⟨rfl, fun _ _ => by kernel_rfl⟩) hS ?_
    try simp only [Act.put, List.setIfInBounds_toArray, List.set_cons_zero, List.set_cons_succ]
    refine wpAnyH_ready (rs := [9]) (by kernel_rfl) (by simp) ?_
    refine AllReadyH.cons (o := { dst := none, op := Op.store 24 (Operand.tmp 17) (Operand.tmp 16), type := 0, pos := "ref.go:35", after := #[{ on := 8, ground := Ground.data }, { on := 7, ground := Ground.data }, { on := 7, ground := Ground.chain }, { on := 0, ground := Ground.phase }, { on := 1, ground := Ground.phase }, { on := 2, ground := Ground.phase }, { on := 3, ground := Ground.phase }, { on := 4, ground := Ground.phase }, { on := 5, ground := Ground.phase }, { on := 6, ground := Ground.phase }, { on := 7, ground := Ground.phase }], guard := none }) rfl (fun K hK => ?_) AllReadyH.nil
    rw [if_pos (by rfl)]
    refine wp_store_slice 24 (.tmp 17) (.tmp 16) rfl b 7 rfl ao _ cp rfl BK153 (by omega) info_ws ?_
    simp only [Act.put]
    refine hK.out _ _ (⟨_, BK153.set 7 _, by simp [h3]⟩) (fun hS => ?_)
    clear hK K
    refine wpAnyH_done (by kernel_rfl) ?_ _
    refine ⟨rfl, v140, v145, .slice (some ad118) 1 1, ao, cp, ?_, _, rfl, SS.mono zK143, K153⟩
    simp only [Act.put, List.setIfInBounds_toArray, List.set_cons_zero, List.set_cons_succ]
  · rintro a' w' ⟨v9, v12, v15, ao, cp, rfl, w2, rfl, SS, K2⟩
    simp only [Act.put, List.setIfInBounds_toArray, List.set_cons_zero, List.set_cons_succ]
    have KV2 : Kept [] V w2 := (Kept.refl [] V).drew.trans K2
    have B2 := HB0.out.kept KV2 (by simp)
    have SS1 := SS.one B2 (by decide) ((Kept.refl [b] w2).setCell (p := ⟨b, 7, none⟩) (Or.inl (by simp)) (.slice ao (f.ps ++ [pr]).length cp))
    obtain ⟨L1, hL1⟩ : ∃ L, L = (f.ps ++ [pr]).length := ⟨_, rfl⟩
    rw [← hL1] at SS1 ⊢
    go_upto_region 2 with (fail)
    refine gen_world (fun W => RW 44 W b (A.setIfInBounds 7 (.slice ao L1 cp)) ∧ RW 35 W (b + 1) M ∧ RW 44 W (b + 1 + 1) rfZ ∧ Kept [b] w2 W ∧ SlB base W ao cp (f.ps ++ [pr])) ⟨B2.set 7 _, ((HM0.out.kept KV2 (by simp)).kept ((Kept.refl [b] w2).setCell (Or.inl (by simp)) _) (by simp)), ((HZ0.out.kept KV2 (by simp)).kept ((Kept.refl [b] w2).setCell (Or.inl (by simp)) _) (by simp; omega)), (Kept.refl [b] w2).setCell (Or.inl (by simp)) _, SS1.mono (Nat.le_trans hb HKV.out.size)⟩ ?_
    clear SS1 B2 SS
    rintro W3 ⟨B3, M3, Z3, k3, SP⟩
    have KW3 : Kept [] w W3 := (HKV.out.trans KV2).then k3 (by simp; omega)
    have h8 : (A.setIfInBounds 7 (.slice ao L1 cp))[8]? = some (.slice a2 n2 c2) := by rw [HA.out]; rfl
    obtain ⟨A3, hA3⟩ : ∃ A3, A3 = A.setIfInBounds 7 (.slice ao L1 cp) := ⟨_, rfl⟩
    rw [← hA3] at h8 B3
    have hA312 : A3.size = 12 := by rw [hA3]; simp [hA12]
    have HA3 := hidOf hA3
    have HB3 := hidOf B3
    have HM3 := hidOf M3
    have HZ3 := hidOf Z3
    have HSP := hidOf SP
    have HKW := hidOf KW3
    clear HB0 HM0 HZ0 HKV h7 h3 hc1 B3 M3 Z3 SP KW3 k3 KV2 K2 hA3
    have hl2 : n2 ≤ 1000 := by have := HL.out; omega
    have hc2 := HS.out.2.1.c
    have s2 : Sl W3 a2 f.ss := HS.out.2.1.s.new HKW.out
    have B0 : RW 44 W3 b A3 := HB3.out
    have K0 : Kept [] W3 W3 := Kept.refl _ _
    have oldW : w.heap.size ≤ W3.heap.size := HKW.out.size
    have oldb := B0.lt
    refine wp_region_lit ?_
    refine wpList_plain rfl (fun K hK => ?_)
    refine wp_lit0 rfl ?_
    intro v155 w156 O157 K159
    have K158 := K0.trans K159
    have BK158 := B0.kept K158 (by simp)
    have zK158 := K0.size
    have mK158 := K159.size
    refine hK _ _ ?_
    clear hK K
    simp only [Act.put, List.setIfInBounds_toArray, List.set_cons_zero, List.set_cons_succ]
    refine wpList_plain rfl (fun K hK => ?_)
    refine wp_value (w1 := w156) (Value.pointer (some ⟨b, 8, none⟩)) (by kernel_rfl) ?_
    refine hK _ _ ?_
    clear hK K
    simp only [Act.put, List.setIfInBounds_toArray, List.set_cons_zero, List.set_cons_succ]
    refine wpList_plain rfl (fun K hK => ?_)
    refine wp_load_slice (.tmp 19) rfl b 8 rfl a2 n2 c2 (cell_of_blk BK158 (i := 8) h8) ?_
    refine hK _ _ ?_
    clear hK K
    simp only [Act.put, List.setIfInBounds_toArray, List.set_cons_zero, List.set_cons_succ]
    refine wpList_plain rfl (fun K hK => ?_)
    refine wp_append_ws (v := v155) (.tmp 18) (.tmp 20) rfl rfl rfl hn2 O157 (s2.kept K158 (by simp)) hc2 mK158 (by simp; omega) ?_
    intro v160 w161 O162 K164
    rw [List.nil_append] at O162
    have K163 := Kept.ofOwnV K158 O157 zK158 K164
    have BK163 := B0.kept K163 (by simp)
    have mK163 := Nat.le_trans mK158 K164.size
    refine hK _ _ ?_
    clear hK K
    simp only [Act.put, List.setIfInBounds_toArray, List.set_cons_zero, List.set_cons_succ]
    refine wpList_plain rfl (fun K hK => ?_)
    refine wp_value (w1 := w161) (Value.int .u64 su) (by kernel_rfl) ?_
    refine hK _ _ ?_
    clear hK K
    simp only [Act.put, List.setIfInBounds_toArray, List.set_cons_zero, List.set_cons_succ]
    refine wpList_plain rfl (fun K hK => ?_)
    refine wp_lit1 (.tmp 22) rfl su rfl ?_
    intro ad165 w166 S167 L170 M171 K169
    have K168 := K163.trans K169
    have BK168 := B0.kept K168 (by simp)
    have lK168 := O162.base
    have OK168 := O162.new K169
    have aK168 : ∀ g, v160.ownBlock = some g → ¬ g = ad165.block := fun g h => by have := (lK168 g h).2; omega
    have mK168 := Nat.le_trans mK163 K169.size
    refine hK _ _ ?_
    clear hK K
    simp only [Act.put, List.setIfInBounds_toArray, List.set_cons_zero, List.set_cons_succ]
    refine wpList_plain rfl (fun K hK => ?_)
    refine wp_append_ws (v := v160) (.tmp 21) (.tmp 23) rfl rfl rfl (xs := [su]) rfl OK168 S167 (fun e => by cases e) mK168 (by simp; omega) ?_
    intro v172 w173 O174 K176
    have K175 := Kept.ofOwnV K168 OK168 zK158 K176
    have BK175 := B0.kept K175 (by simp)
    obtain ⟨ao2, cp2, eK175, SS2⟩ := O174.slb
    subst eK175
    refine hK _ _ ?_
    clear hK K
    simp only [Act.put, List.setIfInBounds_toArray, List.set_cons_zero, List.set_cons_succ]
    refine wpList_plain rfl (fun K hK => ?_)
    refine wp_value (w1 := w173) (Value.pointer (some ⟨b, 8, none⟩)) (by kernel_rfl) ?_
    refine hK _ _ ?_
    clear hK K
    simp only [Act.put, List.setIfInBounds_toArray, List.set_cons_zero, List.set_cons_succ]
    refine wpList_plain rfl (fun K hK => ?_)
    refine wp_store_slice 24 (.tmp 25) (.tmp 24) rfl b 8 rfl ao2 _ cp2 rfl BK175 (by omega) info_ws ?_
    refine hK _ _ ?_
    clear hK K
    simp only [Act.put]
    refine wpList_nil ?_
    have SS1 := SS2.one BK175 (by decide) ((Kept.refl [b] w173).setCell (p := ⟨b, 8, none⟩) (Or.inl (by simp)) (.slice ao2 (f.ss ++ [su]).length cp2))
    obtain ⟨L2, hL2⟩ : ∃ L, L = (f.ss ++ [su]).length := ⟨_, rfl⟩
    rw [← hL2] at SS1 ⊢
    go_upto_region 3 with (fail)
    have KE := K175
    refine gen_world (fun W => RW 44 W b (A3.setIfInBounds 8 (.slice ao2 L2 cp2)) ∧ RW 35 W (b + 1) M ∧ RW 44 W (b + 1 + 1) rfZ ∧ Kept [b] w173 W ∧ SlB base W ao2 cp2 (f.ss ++ [su])) ⟨BK175.set 8 _, ((HM3.out.kept KE (by simp)).kept ((Kept.refl [b] w173).setCell (Or.inl (by simp)) _) (by simp)), ((HZ3.out.kept KE (by simp)).kept ((Kept.refl [b] w173).setCell (Or.inl (by simp)) _) (by simp; omega)), (Kept.refl [b] w173).setCell (Or.inl (by simp)) _, SS1.mono (by omega)⟩ ?_
    rintro W4 ⟨B4, M4, Z4, k4, SP4⟩
    have KW4 : Kept [] w W4 := (HKW.out.trans KE).then k4 (by simp; omega)
    have SPa : SlB base W4 ao cp (f.ps ++ [pr]) := (HSP.out.new KE).one BK175 (by decide) k4
    have h9 : (A3.setIfInBounds 8 (.slice ao2 L2 cp2))[9]? = some (.slice a3 n3 c3) := by rw [HA3.out, HA.out]; rfl
    obtain ⟨A4, hA4⟩ : ∃ A4, A4 = A3.setIfInBounds 8 (.slice ao2 L2 cp2) := ⟨_, rfl⟩
    rw [← hA4] at h9 B4
    have hA412 : A4.size = 12 := by rw [hA4]; simp [hA312]
    have HA4 := hidOf hA4
    have HB4 := hidOf B4
    have HM4 := hidOf M4
    have HZ4 := hidOf Z4
    have HSP4 := hidOf (And.intro SPa SP4)
    have HKW4 := hidOf KW4
    clear HB3 HM3 HZ3 HSP HKW s2 B0 K0 KE B4 M4 Z4 k4 SP4 KW4 SPa SS2 hA4 hc2
    have hl3 : n3 ≤ 1000 := by have := HL.out; omega
    have hc3 := HS.out.2.2.c
    have s3 : Sl W4 a3 f.ks := HS.out.2.2.s.new HKW4.out
    have B0 : RW 44 W4 b A4 := HB4.out
    have K0 : Kept [] W4 W4 := Kept.refl _ _
    have oldW4 : w.heap.size ≤ W4.heap.size := HKW4.out.size
    have oldb4 := B0.lt
    refine wp_region_lit ?_
    refine wpList_plain rfl (fun K hK => ?_)
    refine wp_lit0 rfl ?_
    intro v177 w178 O179 K181
    have K180 := K0.trans K181
    have BK180 := B0.kept K180 (by simp)
    have zK180 := K0.size
    have mK180 := K181.size
    refine hK _ _ ?_
    clear hK K
    simp only [Act.put, List.setIfInBounds_toArray, List.set_cons_zero, List.set_cons_succ]
    refine wpList_plain rfl (fun K hK => ?_)
    refine wp_value (w1 := w178) (Value.pointer (some ⟨b, 9, none⟩)) (by kernel_rfl) ?_
    refine hK _ _ ?_
    clear hK K
    simp only [Act.put, List.setIfInBounds_toArray, List.set_cons_zero, List.set_cons_succ]
    refine wpList_plain rfl (fun K hK => ?_)
    refine wp_load_slice (.tmp 27) rfl b 9 rfl a3 n3 c3 (cell_of_blk BK180 (i := 9) h9) ?_
    refine hK _ _ ?_
    clear hK K
    simp only [Act.put, List.setIfInBounds_toArray, List.set_cons_zero, List.set_cons_succ]
    refine wpList_plain rfl (fun K hK => ?_)
    refine wp_append_ws (v := v177) (.tmp 26) (.tmp 28) rfl rfl rfl hn3 O179 (s3.kept K180 (by simp)) hc3 mK180 (by simp; omega) ?_
    intro v182 w183 O184 K186
    rw [List.nil_append] at O184
    have K185 := Kept.ofOwnV K180 O179 zK180 K186
    have BK185 := B0.kept K185 (by simp)
    have mK185 := Nat.le_trans mK180 K186.size
    refine hK _ _ ?_
    clear hK K
    simp only [Act.put, List.setIfInBounds_toArray, List.set_cons_zero, List.set_cons_succ]
    refine wpList_plain rfl (fun K hK => ?_)
    refine wp_value (w1 := w183) (Value.int .u64 ke) (by kernel_rfl) ?_
    refine hK _ _ ?_
    clear hK K
    simp only [Act.put, List.setIfInBounds_toArray, List.set_cons_zero, List.set_cons_succ]
    refine wpList_plain rfl (fun K hK => ?_)
    refine wp_lit1 (.tmp 30) rfl ke rfl ?_
    intro ad187 w188 S189 L192 M193 K191
    have K190 := K185.trans K191
    have BK190 := B0.kept K190 (by simp)
    have lK190 := O184.base
    have OK190 := O184.new K191
    have aK190 : ∀ g, v182.ownBlock = some g → ¬ g = ad187.block := fun g h => by have := (lK190 g h).2; omega
    have mK190 := Nat.le_trans mK185 K191.size
    refine hK _ _ ?_
    clear hK K
    simp only [Act.put, List.setIfInBounds_toArray, List.set_cons_zero, List.set_cons_succ]
    refine wpList_plain rfl (fun K hK => ?_)
    refine wp_append_ws (v := v182) (.tmp 29) (.tmp 31) rfl rfl rfl (xs := [ke]) rfl OK190 S189 (fun e => by cases e) mK190 (by simp; omega) ?_
    intro v194 w195 O196 K198
    have K197 := Kept.ofOwnV K190 OK190 zK180 K198
    have BK197 := B0.kept K197 (by simp)
    obtain ⟨ao3, cp3, eK197, SS3⟩ := O196.slb
    subst eK197
    refine hK _ _ ?_
    clear hK K
    simp only [Act.put, List.setIfInBounds_toArray, List.set_cons_zero, List.set_cons_succ]
    refine wpList_plain rfl (fun K hK => ?_)
    refine wp_value (w1 := w195) (Value.pointer (some ⟨b, 9, none⟩)) (by kernel_rfl) ?_
    refine hK _ _ ?_
    clear hK K
    simp only [Act.put, List.setIfInBounds_toArray, List.set_cons_zero, List.set_cons_succ]
    refine wpList_plain rfl (fun K hK => ?_)
    refine wp_store_slice 24 (.tmp 33) (.tmp 32) rfl b 9 rfl ao3 _ cp3 rfl BK197 (by omega) info_ws ?_
    refine hK _ _ ?_
    clear hK K
    simp only [Act.put]
    refine wpList_nil ?_
    have SS1 := SS3.one BK197 (by decide) ((Kept.refl [b] w195).setCell (p := ⟨b, 9, none⟩) (Or.inl (by simp)) (.slice ao3 (f.ks ++ [ke]).length cp3))
    obtain ⟨L3, hL3⟩ : ∃ L, L = (f.ks ++ [ke]).length := ⟨_, rfl⟩
    rw [← hL3] at SS1 ⊢
    go_upto_region 4 with (fail)
    have KE := K197
    refine gen_world (fun W => RW 44 W b (A4.setIfInBounds 9 (.slice ao3 L3 cp3)) ∧ RW 35 W (b + 1) M ∧ RW 44 W (b + 1 + 1) rfZ ∧ Kept [b] w195 W ∧ SlB base W ao3 cp3 (f.ks ++ [ke])) ⟨BK197.set 9 _, ((HM4.out.kept KE (by simp)).kept ((Kept.refl [b] w195).setCell (Or.inl (by simp)) _) (by simp)), ((HZ4.out.kept KE (by simp)).kept ((Kept.refl [b] w195).setCell (Or.inl (by simp)) _) (by simp; omega)), (Kept.refl [b] w195).setCell (Or.inl (by simp)) _, SS1.mono (by omega)⟩ ?_
    rintro W5 ⟨B5, M5, Z5, k5, SP5⟩
    have KW5 : Kept [] w W5 := (HKW4.out.trans KE).then k5 (by simp; omega)
    have SPa : SlB base W5 ao cp (f.ps ++ [pr]) := (HSP4.out.1.new KE).one BK197 (by decide) k5
    have SPb : SlB base W5 ao2 cp2 (f.ss ++ [su]) := (HSP4.out.2.new KE).one BK197 (by decide) k5
    have h2 : (A4.setIfInBounds 9 (.slice ao3 L3 cp3))[2]? = some (.int .i64 f.dn) := by rw [HA4.out, HA3.out, HA.out]; rfl
    have h1 : (A4.setIfInBounds 9 (.slice ao3 L3 cp3))[1]? = some (.int .i64 f.nx) := by rw [HA4.out, HA3.out, HA.out]; rfl
    have h11 : (A4.setIfInBounds 9 (.slice ao3 L3 cp3))[11]? = some (.bool f.d) := by rw [HA4.out, HA3.out, HA.out]; rfl
    have eA : (((A4.setIfInBounds 9 (.slice ao3 L3 cp3)).setIfInBounds 2 (.int .i64 ((f.dn : Int) + 1))).setIfInBounds 1 (.int .i64 0)).setIfInBounds 11 (.bool (decide (c.h ≤ (f.dn : Int) + 1))) = rfA (f.ended c f.at_ su ke) ao L1 cp ao2 L2 cp2 ao3 L3 cp3 := by
      rw [HA4.out, HA3.out, HA.out]
      unfold rfA Fm.ended
      simp only [Int.natCast_add]
      rfl
    obtain ⟨A5, hA5⟩ : ∃ A5, A5 = A4.setIfInBounds 9 (.slice ao3 L3 cp3) := ⟨_, rfl⟩
    rw [← hA5] at h1 h2 h11 B5 eA
    have HB5 := hidOf B5
    have HM5 := hidOf M5
    have HZ5 := hidOf Z5
    have HSP5 := hidOf (And.intro SPa (And.intro SPb SP5))
    have HKW5 := hidOf KW5
    have HE := hidOf eA
    have q2 := cell_of_blk B5 (i := 2) h2
    have q1b := cell_of_blk B5 (i := 1) h1
    have q11 := cell_of_blk B5 (i := 11) h11
    have q1 := cell_of_blk M5 (i := 3) hM
    have hf := free_of_blk B5
    have hbl := B5.lt
    have hdn : (f.dn : Int) ≤ 1000 := by have := HL.out; omega
    have HLs := hidOf (And.intro hL1 (And.intro hL2 hL3))
    clear HB4 HM4 HZ4 HSP4 HKW4 s3 B0 K0 KE B5 M5 Z5 k5 SP5 KW5 SPa SPb SS3 hA5 eA HA4 HA3 HA h1 h2 h11 h9 hM hc3 oldW oldW4 oldb oldb4 hL1 hL2 hL3 HS
    go_upto_region 7 with (fail)
    refine gen_world (fun W => RW 44 W b (rfA (f.ended c f.at_ su ke) ao L1 cp ao2 L2 cp2 ao3 L3 cp3) ∧ RW 44 W (b + 1 + 1) rfZ ∧ Kept [b] W5 W) ?_ ?_
    · rw [← HE.out]
      have ks := (((Kept.refl [b] W5).setCell (p := ⟨b, 2, none⟩) (Or.inl (by simp)) (.int .i64 ((f.dn : Int) + 1))).setCell (p := ⟨b, 1, none⟩) (Or.inl (by simp)) (.int .i64 0)).setCell (p := ⟨b, 11, none⟩) (Or.inl (by simp)) (.bool (decide (c.h ≤ (f.dn : Int) + 1)))
      exact ⟨((HB5.out.set 2 _).set 1 _).set 11 _, HZ5.out.kept ks (by simp; omega), ks⟩
    rintro W6 ⟨B6, Z6, k6⟩
    have K6 := HKW5.out.then k6 (by simp; omega)
    have e1 : L1 = (f.ended c f.at_ su ke).ps.length := by rw [HLs.out.1, HP.out]; rfl
    have e2 : L2 = (f.ended c f.at_ su ke).ss.length := HLs.out.2.1
    have e3 : L3 = (f.ended c f.at_ su ke).ks.length := HLs.out.2.2
    have RFE : RF base W6 (f.ended c f.at_ su ke) (rfA (f.ended c f.at_ su ke) ao L1 cp ao2 L2 cp2 ao3 L3 cp3) := by
      refine ⟨ao, cp, ao2, cp2, ao3, cp3, by rw [← e1, ← e2, ← e3], ?_, ?_, ?_⟩
      · have z := HSP5.out.1.one HB5.out (by decide) k6; rw [HP.out] at z; exact z
      · exact HSP5.out.2.1.one HB5.out (by decide) k6
      · exact HSP5.out.2.2.one HB5.out (by decide) k6
    obtain ⟨A6, hA6⟩ : ∃ A6, A6 = rfA (f.ended c f.at_ su ke) ao L1 cp ao2 L2 cp2 ao3 L3 cp3 := ⟨_, rfl⟩
    have s6 : A6.size = 12 := by rw [hA6]; rfl
    have o6 : A6.all (·.oneCell') = true := by rw [hA6]; exact rf_one _ _ _ _ _ _ _ _ _ _
    rw [← hA6] at B6 RFE
    have HR6 := hidOf (RFE.far1 Z6 (by decide) ((Kept.refl [b + 1 + 1] W6).setRow (b := b + 1 + 1) (Or.inl (by simp)) A6))
    have HK6 := hidOf K6
    have hb2 : ¬ b = b + 1 + 1 := by omega
    clear RFE hA6 e1 e2 e3 K6 k6 HSP5 HB5 HM5 HZ5 HE HKW5 q1 q1b q11 q2 hf HLs HP
    refine wp_region_lit ?_
    refine wpList_load_rw 44 isT_rf rfl (.tmp 4) rfl b rfl A6 s6 B6 ?_
    simp only [Act.put, List.setIfInBounds_toArray, List.set_cons_zero, List.set_cons_succ]
    refine wpList_store_rw 44 isT_rf rfl (.tmp 8) (.tmp 46) rfl (b + 1 + 1) A6 rfl rfl s6 o6 rfZ Z6 rfl ?_
    simp only [Act.put]
    refine wpList_nil ?_
    go_wp2
    refine bodyPost_ret (v := .agg A6) ?_ rfl ⟨A6, rfl, HR6.out, HK6.out.setRow (b := b + 1 + 1) (Or.inr (by omega)) _⟩
    obtain ⟨fs, hu⟩ := isT_rf.2
    exact results_cell_row Tryz.results69 _ _ (b + 1 + 1) 44 _ (0, 0) _ rfl (Z6.row _) hu rfl (by rw [isT_rf.1, s6])
end K
end Go.Proofs.YtgafmklfpiipcaaGreatDoor
namespace Go.Proofs.YtgafmklfpiipcaaGreatDoor
open Go.RowKit (Grown Hid Below)
open Go.Deep
namespace K
set_option maxRecDepth 100000
theorem RF.size {base : Nat} {w : World} {f : Fm} {A : Array Value} (h : RF base w f A) : A.size = 12 := by
  obtain ⟨a1, c1, a2, c2, a3, c3, e, _⟩ := h; rw [e]; rfl
theorem RF.one {base : Nat} {w : World} {f : Fm} {A : Array Value} (h : RF base w f A) : A.all (·.oneCell') = true := by
  obtain ⟨a1, c1, a2, c2, a3, c3, e, _⟩ := h; rw [e]; exact rf_one _ _ _ _ _ _ _ _ _ _
theorem RF.cells {base : Nat} {w : World} {f : Fm} {A : Array Value} (h : RF base w f A) : A[0]? = some (.int .u64 f.k) ∧ A[1]? = some (.int .i64 f.nx) ∧ A[2]? = some (.int .i64 f.dn) ∧ A[3]? = some (.int .u64 f.pr) ∧ A[4]? = some (.int .u64 f.x) ∧ A[5]? = some (.int .u64 f.s) ∧ A[6]? = some (.int .u64 f.era) ∧ A[10]? = some (.int .i64 f.at_) ∧ A[11]? = some (.bool f.d) := by
  obtain ⟨a1, c1, a2, c2, a3, c3, e, _⟩ := h; rw [e]; exact ⟨rfl, rfl, rfl, rfl, rfl, rfl, rfl, rfl, rfl⟩
theorem RF.setnx {base : Nat} {w : World} {f : Fm} {A : Array Value} (h : RF base w f A) (v : Nat) : RF base w { f with nx := v } (A.setIfInBounds 1 (.int .i64 v)) := by
  obtain ⟨a1, c1, a2, c2, a3, c3, e, h1, h2, h3⟩ := h; exact ⟨a1, c1, a2, c2, a3, c3, by rw [e]; rfl, h1, h2, h3⟩
theorem RF.setpr {base : Nat} {w : World} {f : Fm} {A : Array Value} (h : RF base w f A) (v : Int) : RF base w { f with pr := v } (A.setIfInBounds 3 (.int .u64 v)) := by
  obtain ⟨a1, c1, a2, c2, a3, c3, e, h1, h2, h3⟩ := h; exact ⟨a1, c1, a2, c2, a3, c3, by rw [e]; rfl, h1, h2, h3⟩
theorem RF.setx {base : Nat} {w : World} {f : Fm} {A : Array Value} (h : RF base w f A) (v : Int) : RF base w { f with x := v } (A.setIfInBounds 4 (.int .u64 v)) := by
  obtain ⟨a1, c1, a2, c2, a3, c3, e, h1, h2, h3⟩ := h; exact ⟨a1, c1, a2, c2, a3, c3, by rw [e]; rfl, h1, h2, h3⟩
theorem RF.sets {base : Nat} {w : World} {f : Fm} {A : Array Value} (h : RF base w f A) (v : Int) : RF base w { f with s := v } (A.setIfInBounds 5 (.int .u64 v)) := by
  obtain ⟨a1, c1, a2, c2, a3, c3, e, h1, h2, h3⟩ := h; exact ⟨a1, c1, a2, c2, a3, c3, by rw [e]; rfl, h1, h2, h3⟩
theorem RF.setera {base : Nat} {w : World} {f : Fm} {A : Array Value} (h : RF base w f A) (v : Int) : RF base w { f with era := v } (A.setIfInBounds 6 (.int .u64 v)) := by
  obtain ⟨a1, c1, a2, c2, a3, c3, e, h1, h2, h3⟩ := h; exact ⟨a1, c1, a2, c2, a3, c3, by rw [e]; rfl, h1, h2, h3⟩
theorem RF.setat {base : Nat} {w : World} {f : Fm} {A : Array Value} (h : RF base w f A) (v : Int) : RF base w { f with at_ := v } (A.setIfInBounds 10 (.int .i64 v)) := by
  obtain ⟨a1, c1, a2, c2, a3, c3, e, h1, h2, h3⟩ := h; exact ⟨a1, c1, a2, c2, a3, c3, by rw [e]; rfl, h1, h2, h3⟩
theorem rfanewA {base : Nat} {w : World} {f : Fm} {A : Array Value} (h : RF base w f A) :
    Calls Tryz.prog 59 #[.agg A] w fun e w' => e = .returned (.agg (rfA (f.anew f.at_) none 0 0 none 0 0 none 0 0)) ∧ Kept [] w w' := by
  obtain ⟨a1, c1, a2, c2, a3, c3, e, _⟩ := h
  rw [e]; exact rfanew_any f _ _ _ _ _ _ _ _ _ w
set_option maxHeartbeats 8000000 in
theorem rfread_any (c : Cfg) (f : Fm) (A : Array Value) (base g : Nat) (cs : List Int) (cap : Nat) (cnt : Int) (a : Acc) (w : World) (hRF : RF base w f A) (hR : RowR w g cs cap) (hl : cs.length ≤ 17592186044415) (c0 : 0 ≤ cnt) (c1 : cnt < 4611686018427387904) (R : Rt c) (hW : isW f.pr) (wd : Wds cs) (hdn : f.dn < HN c) (hb : base ≤ w.heap.size) (hlen : f.ps.length ≤ 1000 ∧ f.ss.length ≤ 1000 ∧ f.ks.length ≤ 1000) :
    Calls Tryz.prog 64 #[.agg A, .agg (rmA c (some ⟨g, 0, none⟩) cs.length cap cnt a)] w fun e w' =>
      ∃ X B, e = .returned (.tuple #[.agg X, .agg B]) ∧ RF base w' (if mkB (rdW c cs f) = true then f.anew (atF c cnt f) else if vlB (rdW c cs f) = false then f.ended c (atF c cnt f) 0 0 else { f with x := rdW c cs f, nx := 1, at_ := atF c cnt f }) X ∧ Wv w g c cs.length cs (cnt + 1) (acV cs 1 (clV' c (ixV f.pr) (6 + lv c f)) (plainV f.pr) 0 0) B w' ∧ Kept [] w w' := by
  have hHN := HN_eq R
  have R1 := R.h1
  have HLD := hidOf (fun (W : World) (k : Kept [] w W) => rloadW c g cs cap cnt a f.pr (6 + lv c f) W (hR.kept k (by simp)) hl hW c0 c1)
  have HWX := fd_word (c := c) wd (ixV f.pr) (6 + lv c f)
  have HMk := hidOf (fun W => rmarked_any (rdW c cs f) W HWX.1 HWX.2)
  have HVl := hidOf (fun W => rvalid_any (rdW c cs f) W HWX.1 HWX.2)
  have eRW : fd c cs (ixV f.pr) (6 + lv c f) = rdW c cs f := rfl
  rw [eRW] at HLD HWX
  have hlv : lv c f = c.h - 1 - (f.dn : Int) := rfl
  generalize acV cs 1 (clV' c (ixV f.pr) (6 + lv c f)) (plainV f.pr) 0 0 = AC at HLD ⊢
  rw [hlv] at HLD
  generalize rdW c cs f = Xo at HLD HMk HVl HWX ⊢
  obtain ⟨AT, hAT⟩ : ∃ AT, AT = atF c cnt f := ⟨_, rfl⟩
  obtain ⟨f1, hf1⟩ : ∃ f1 : Fm, f1 = { f with at_ := AT } := ⟨_, rfl⟩
  have E1 : f.anew AT = f1.anew f1.at_ := by rw [hf1]; rfl
  have E2 : f.ended c AT 0 0 = f1.ended c f1.at_ 0 0 := by rw [hf1]; rfl
  have E3 : ({ f with x := Xo, nx := 1, at_ := AT } : Fm) = { f1 with x := Xo, nx := 1 } := by rw [hf1]
  rw [← hAT, E1, E2, E3]
  obtain ⟨Qf, hQf⟩ : ∃ Qf, Qf = if mkB Xo = true then f1.anew f1.at_ else if vlB Xo = false then f1.ended c f1.at_ 0 0 else { f1 with x := Xo, nx := 1 } := ⟨_, rfl⟩
  rw [← hQf]
  have HQ := hidOf hQf
  clear hQf
  have HF1 := hidOf hf1
  have hln : f1.ps.length ≤ 1000 ∧ f1.ss.length ≤ 1000 ∧ f1.ks.length ≤ 1000 ∧ f1.dn ≤ 1000 := by
    rw [hf1]; have := hHN; exact ⟨hlen.1, hlen.2.1, hlen.2.2, by show f.dn ≤ 1000; omega⟩
  have HLn := hidOf hln
  obtain ⟨n, hn⟩ : ∃ n, n = cs.length := ⟨_, rfl⟩
  rw [← hn] at HLD ⊢
  obtain ⟨M, hM⟩ : ∃ M, M = rmA c (some ⟨g, 0, none⟩) n cap cnt a := ⟨_, rfl⟩
  have hM15 : M.size = 15 := by rw [hM]; rfl
  have hM3 : M[3]? = some (.int .i64 c.h) := by rw [hM]; rfl
  rw [← hM] at HLD ⊢
  have gw := hR.lt
  have hA12 := hRF.size
  obtain ⟨k0, k1, k2, k3, k4, k5, k6, k10, k11⟩ := hRF.cells
  have HRF := hidOf hRF
  have d0 : (0 : Int) ≤ f.dn := by omega
  have d1 : (f.dn : Int) + 1 ≤ c.h := by omega
  have HAT : Hid (AT = if c.h - 1 - (f.dn : Int) = 0 then cnt + 1 else f.at_) := hAT
  clear hRF hR hl hM hn wd R hdn hlen HWX eRW hHN hAT hf1 E1 E2 E3 hln
  obtain ⟨b, hbw⟩ : ∃ b, b = w.heap.size := ⟨_, rfl⟩
  have ST := hidOf (R4.start 44 35 w A M rfZ rmZ hbw)
  go_enter Tryz.func64, Tryz.ntmps64
  go_upto_region 1 with (fail)
  rw [← hbw]
  refine gen_world (fun W => R4 44 35 w W b A M rfZ rmZ) ST.out ?_
  have hbb : w.heap.size ≤ b := by omega
  clear ST hbw
  rintro W0 R0
  have HR0 := hidOf R0
  have p2 := cell_of_blk R0.c (i := 2) k2
  have p3 := cell_of_blk R0.c (i := 3) k3
  have m3 := cell_of_blk R0.m (i := 3) hM3
  have MB := R0.m
  clear R0
  go_wp2_with (first | ((with_reducible change wpList _ _ _ (Oper.mk _ (Op.load 35 (Operand.tmp 3)) _ _ _ _ :: _) _ _); refine wpList_load_rw 35 isT_rm rfl (.tmp 3) rfl (b + 1) rfl M hM15 MB ?_))
  refine (HLD.out _ HR0.out.k).mono ?_
  rintro e w1 ⟨B1, rfl, WVx, K1⟩
  have WV0 := hidOf (WVx.old (w := w) HR0.out.k.size)
  have h8 := WV0.out.cells.2
  have sB0 := WV0.out.size
  have oB0 := WV0.out.allOne
  have R1x := HR0.out.new K1
  have sz1 := R1x.m'.lt
  have HR1 := hidOf R1x
  clear HLD HR0 p2 p3 m3 MB WVx R1x
  obtain ⟨d, hd⟩ : ∃ d, d = w1.heap.size := ⟨_, rfl⟩
  go_upto_region 3 with (first | ((with_reducible change wpList _ _ _ (Oper.mk _ (Op.store 35 (Operand.tmp 7) _) _ _ _ _ :: _) _ _); refine wpList_store_rw 35 isT_rm rfl (.tmp 7) (.tmp 23) rfl w1.heap.size B1 rfl rfl sB0 oB0 rmZ (RW.new 35 w1 rmZ) rfl ?_))
  rw [← hd]
  refine gen_world (fun V => RW 35 V d B1 ∧ Kept [] w1 V) ?_ ?_
  · rw [hd]; exact ⟨(RW.new 35 w1 rmZ).row _, ((Kept.refl [] w1).alloc _).setRow (Or.inr (Nat.le_refl _)) _⟩
  have hd1 : w1.heap.size ≤ d := by omega
  clear hd K1
  rintro W ⟨D0, KV⟩
  have R2 := HR1.out.new KV
  have WV1 := WV0.out.new KV
  have RF2 := HRF.out.new R2.k
  by_cases h0 : c.h - 1 - (f.dn : Int) = 0
  · have eAT : AT = cnt + 1 := HAT.out.trans (if_pos h0)
    have F00 := R2.c
    have p10 := cell_of_blk F00 (i := 10) k10
    have q8 := cell_of_blk D0 (i := 8) h8
    have hf := free_of_blk F00
    have RFa : RF base W f1 (A.setIfInBounds 10 (.int .i64 (cnt + 1))) := by rw [HF1.out, eAT]; exact RF2.setat (cnt + 1)
    have HX0 := hidOf (And.intro R2 (And.intro WV1 (And.intro RFa D0)))
    clear HAT eAT HR1 WV0 HRF KV R2 WV1 RF2 RFa D0 F00 HF1
    go_upto_region 5 with (fail)
    obtain ⟨R2, WV1, RF2, D0⟩ := HX0.out
    have kk := (Kept.refl [b] W).setCell (p := ⟨b, 10, none⟩) (Or.inl (by simp)) (.int .i64 (cnt + 1))
    refine gen_world (fun V => RW 44 V b (A.setIfInBounds 10 (.int .i64 (cnt + 1))) ∧ RW 35 V d B1 ∧ RW 44 V (b + 1 + 1) rfZ ∧ RW 35 V (b + 1 + 1 + 1) rmZ ∧ RW 35 V (b + 1) M ∧ Hid (RF base V f1 (A.setIfInBounds 10 (.int .i64 (cnt + 1))) ∧ Wv w g c n cs (cnt + 1) AC B1 V ∧ Kept [] w V)) ⟨R2.c.set 10 _, D0.kept kk (by simp; omega), R2.c'.kept kk (by simp; omega), R2.m'.kept kk (by simp; omega), R2.m.kept kk (by simp), RF2.far1 R2.c (by decide) kk, WV1.one R2.c (by decide) kk, R2.k.then kk (by simp; omega)⟩ ?_
    clear R2 WV1 RF2 D0 HX0 p10 q8 hf kk
    rintro V ⟨F0, D0, Z0, Y0, M0, HX⟩
    generalize V = W at F0 D0 Z0 Y0 M0 HX ⊢
    have s1 : (A.setIfInBounds 10 (.int .i64 (cnt + 1))).size = 12 := by simp [hA12]
    generalize A.setIfInBounds 10 (.int .i64 (cnt + 1)) = A1 at F0 HX s1 ⊢
    have sB : B1.size = 15 := HX.out.2.1.size
    have oB : B1.all (·.oneCell') = true := HX.out.2.1.allOne
    cases hmk : mkB Xo with
    | true =>
      rw [hmk] at HMk
      have eQ := hidOf (HQ.out.trans (if_pos hmk))
      go_wp2_with fail
      refine (HMk.out W).mono ?_
      rintro e w5 ⟨rfl, K5⟩
      have F0 := F0.kept K5 (by simp)
      have D0 := D0.kept K5 (by simp)
      have Z0 := Z0.kept K5 (by simp)
      have Y0 := Y0.kept K5 (by simp)
      have M0 := M0.kept K5 (by simp)
      have HX := hidOf (And.intro (HX.out.1.new K5) (And.intro (HX.out.2.1.new K5) (HX.out.2.2.trans K5)))
      clear K5
      generalize w5 = W at F0 D0 Z0 Y0 M0 HX ⊢
      go_upto_region 6 with (fail)
      refine wp_region_held_drew (S := fun w' => RW 44 w' b A1 ∧ RW 35 w' d B1 ∧ (∃ O, RW 44 w' (b + 1 + 1) O ∧ O.size = 12) ∧ (∃ O, RW 35 w' (b + 1 + 1 + 1) O ∧ O.size = 15)) (by kernel_rfl) ⟨F0.drew, D0.drew, ⟨_, Z0.drew, rfl⟩, ⟨_, Y0.drew, rfl⟩⟩ (fun hS => ?_)
      have F1 : RW 44 W.drew b A1 := F0
      have D1 : RW 35 W.drew d B1 := D0
      have Z1 : RW 44 W.drew (b + 1 + 1) rfZ := Z0
      have Y1 : RW 35 W.drew (b + 1 + 1 + 1) rmZ := Y0
      have M1 : RW 35 W.drew (b + 1) M := M0
      have KV : Kept [] w W.drew := HX.out.2.2.drew
      have RF1 : RF base W.drew f1 A1 := HX.out.1.new (Kept.refl [] W).drew
      have WV1 : Wv w g c n cs (cnt + 1) AC B1 W.drew := HX.out.2.1.new (Kept.refl [] W).drew
      clear F0 D0 Z0 Y0 M0 HX
      generalize W.drew = W at F1 D1 Z1 Y1 M1 KV RF1 WV1 hS ⊢
      refine wpAnyH_take (i := 0) (oi := { dst := some 33, op := Op.load 44 (Operand.tmp 2), type := 44, pos := "ref.go:52", after := #[], guard := none }) (v := Value.agg A1) rfl (by kernel_rfl) (by kernel_rfl) (by kernel_rfl) (fun _ _ _ h => h) (yieldsIf_load_rw rfl 44 isT_rf (.tmp 2) rfl b rfl A1 s1 (fun _ h => h.1)) hS ?_
      try simp only [Act.put, List.setIfInBounds_toArray, List.set_cons_zero, List.set_cons_succ]
      refine wpAnyH_take (i := 2) (oi := { dst := some 35, op := Op.load 35 (Operand.tmp 7), type := 35, pos := "ref.go:52", after := #[{ on := 3, ground := Ground.gcOnly Departure.lateStores }], guard := none }) (v := Value.agg B1) rfl (by kernel_rfl) (by kernel_rfl) (by kernel_rfl) (fun _ _ _ h => h) (yieldsIf_load_rw rfl 35 isT_rm (.tmp 7) rfl d rfl B1 sB (fun _ h => h.2.1)) hS ?_
      try simp only [Act.put, List.setIfInBounds_toArray, List.set_cons_zero, List.set_cons_succ]
      refine wpAnyH_ready (rs := [1]) (by kernel_rfl) (by simp) ?_
      refine AllReadyH.cons (o := { dst := some 34, op := Op.call { callee := Callee.value (Operand.func 59), args := #[Operand.tmp 33], argTypes := #[44] }, type := 44, pos := "ref.go:52", after := #[{ on := 0, ground := Ground.data }], guard := none }) rfl (fun K hK => ?_) AllReadyH.nil
      rw [if_pos (by rfl)]
      obtain ⟨X, hX⟩ : ∃ X, X = rfA (f1.anew f1.at_) none 0 0 none 0 0 none 0 0 := ⟨_, rfl⟩
      have sX : X.size = 12 := by rw [hX]; rfl
      have oX : X.all (·.oneCell') = true := by rw [hX]; exact rf_one _ _ _ _ _ _ _ _ _ _
      have AN := rfanewA RF1
      rw [← hX] at AN
      refine wp_calls 59 #[.agg A1] (by kernel_rfl) (fun v V => v = .agg X ∧ Kept [] W V) (AN.mono fun e w' hh => ⟨_, hh.1, rfl, hh.2⟩) ?_
      rintro _ wC ⟨rfl, KC⟩
      have RX : RF base wC (f1.anew f1.at_) X := by rw [hX]; exact RF.anew _ _ _ _
      try simp only [Act.put, List.setIfInBounds_toArray, List.set_cons_zero, List.set_cons_succ]
      refine hK.out _ _ (⟨F1.kept KC (by simp), D1.kept KC (by simp), ⟨_, Z1.kept KC (by simp), rfl⟩, ⟨_, Y1.kept KC (by simp), rfl⟩⟩) (fun hS => ?_)
      clear hK K
      refine wpAnyH_ready (rs := [3]) (by kernel_rfl) (by simp) ?_
      refine AllReadyH.cons (o := { dst := none, op := Op.store 44 (Operand.tmp 4) (Operand.tmp 34), type := 0, pos := "ref.go:52", after := #[{ on := 1, ground := Ground.data }, { on := 1, ground := Ground.chain }, { on := 0, ground := Ground.phase }, { on := 1, ground := Ground.phase }, { on := 2, ground := Ground.textOnly Departure.lateStores }], guard := none }) rfl (fun K hK => ?_) AllReadyH.nil
      rw [if_pos (by rfl)]
      have F2 := F1.kept KC (by simp)
      have D2 := D1.kept KC (by simp)
      have Z2 := Z1.kept KC (by simp)
      have Y2 := Y1.kept KC (by simp)
      refine wp_store_row 44 (.tmp 4) (.tmp 34) rfl (b + 1 + 1) X rfl rfl 44 rfZ Z2 (by rw [isT_rf.1, sX]) (by rw [sX]; rfl) oX ?_
      have Z3 := Z2.row X
      have Y3 := Y2.rowOther X (c := b + 1 + 1) (by omega)
      have k3 := (Kept.refl [b + 1 + 1] wC).setRow (b := b + 1 + 1) (Or.inl (by simp)) X
      have RX3 := RX.far1 Z2 (by decide) k3
      have WV3 := (WV1.new KC).one Z2 (by decide) k3
      simp only [Act.put]
      refine hK.out _ _ (⟨F2.rowOther _ (by omega), D2.rowOther _ (by omega), ⟨_, Z3, sX⟩, ⟨_, Y3, rfl⟩⟩) (fun hS => ?_)
      clear hK K
      refine wpAnyH_ready (rs := [4]) (by kernel_rfl) (by simp) ?_
      refine AllReadyH.cons (o := { dst := none, op := Op.store 35 (Operand.tmp 5) (Operand.tmp 35), type := 0, pos := "ref.go:52", after := #[{ on := 2, ground := Ground.data }, { on := 3, ground := Ground.chain }, { on := 0, ground := Ground.phase }, { on := 1, ground := Ground.phase }, { on := 2, ground := Ground.phase }, { on := 3, ground := Ground.phase }], guard := none }) rfl (fun K hK => ?_) AllReadyH.nil
      rw [if_pos (by rfl)]
      refine wp_store_row 35 (.tmp 5) (.tmp 35) rfl (b + 1 + 1 + 1) B1 rfl rfl 35 rmZ Y3 (by rw [isT_rm.1, sB]) (by rw [sB]; rfl) oB ?_
      have Z4 := Z3.rowOther B1 (c := b + 1 + 1 + 1) (by omega)
      have Y4 := Y3.row B1
      have k4 := (Kept.refl [b + 1 + 1 + 1] (wC.setRow (b + 1 + 1) X)).setRow (b := b + 1 + 1 + 1) (Or.inl (by simp)) B1
      have RX4 := RX3.far1 Y3 (by decide) k4
      have WV4 := WV3.one Y3 (by decide) k4
      simp only [Act.put]
      refine hK.out _ _ (⟨(F2.rowOther _ (by omega)).rowOther _ (by omega), (D2.rowOther _ (by omega)).rowOther _ (by omega), ⟨_, Z4, sX⟩, ⟨_, Y4, sB⟩⟩) (fun hS => ?_)
      clear hK K
      refine wpAnyH_done (by kernel_rfl) ?_ _
      clear hS
      go_wp2
      refine bodyPost_ret (v := .tuple #[.agg X, .agg B1]) (results_rw2 Tryz.results64 isT_rf isT_rm _ _ (b + 1 + 1) (b + 1 + 1 + 1) X B1 sX sB rfl rfl Z4 Y4) rfl ⟨X, B1, rfl, (by rw [eQ.out]; exact RX4), WV4, ((KV.trans KC).setRow (Or.inr (by omega)) _).setRow (Or.inr (by omega)) _⟩
    | false =>
      rw [hmk] at HMk
      have eQ1 := hidOf (HQ.out.trans (if_neg (by rw [hmk]; decide)))
      cases hvl : vlB Xo with
      | false =>
        rw [hvl] at HVl
        have eQ := hidOf (eQ1.out.trans (if_pos hvl))
        go_wp2_with fail
        refine (HMk.out W).mono ?_
        rintro e w5 ⟨rfl, K5⟩
        go_wp2_with fail
        refine (HVl.out w5).mono ?_
        rintro e w6 ⟨rfl, K6⟩
        have K5 := K5.trans K6
        have F0 := F0.kept K5 (by simp)
        have D0 := D0.kept K5 (by simp)
        have Z0 := Z0.kept K5 (by simp)
        have Y0 := Y0.kept K5 (by simp)
        have M0 := M0.kept K5 (by simp)
        have HX := hidOf (And.intro (HX.out.1.new K5) (And.intro (HX.out.2.1.new K5) (HX.out.2.2.trans K5)))
        clear K5 K6
        generalize w6 = W at F0 D0 Z0 Y0 M0 HX ⊢
        go_upto_region 8 with (fail)
        refine wp_region_held_drew (S := fun w' => RW 44 w' b A1 ∧ RW 35 w' d B1 ∧ (∃ O, RW 44 w' (b + 1 + 1) O ∧ O.size = 12) ∧ (∃ O, RW 35 w' (b + 1 + 1 + 1) O ∧ O.size = 15) ∧ RW 35 w' (b + 1) M) (by kernel_rfl) ⟨F0.drew, D0.drew, ⟨_, Z0.drew, rfl⟩, ⟨_, Y0.drew, rfl⟩, M0.drew⟩ (fun hS => ?_)
        have F1 : RW 44 W.drew b A1 := F0
        have D1 : RW 35 W.drew d B1 := D0
        have Z1 : RW 44 W.drew (b + 1 + 1) rfZ := Z0
        have Y1 : RW 35 W.drew (b + 1 + 1 + 1) rmZ := Y0
        have M1 : RW 35 W.drew (b + 1) M := M0
        have KV : Kept [] w W.drew := HX.out.2.2.drew
        have RF1 : RF base W.drew f1 A1 := HX.out.1.new (Kept.refl [] W).drew
        have WV1 : Wv w g c n cs (cnt + 1) AC B1 W.drew := HX.out.2.1.new (Kept.refl [] W).drew
        clear F0 D0 Z0 Y0 M0 HX
        generalize W.drew = W at F1 D1 Z1 Y1 M1 KV RF1 WV1 hS ⊢
        refine wpAnyH_take (i := 0) (oi := { dst := some 39, op := Op.load 44 (Operand.tmp 2), type := 44, pos := "ref.go:55", after := #[], guard := none }) (v := Value.agg A1) rfl (by kernel_rfl) (by kernel_rfl) (by kernel_rfl) (fun _ _ _ h => h) (yieldsIf_load_rw rfl 44 isT_rf (.tmp 2) rfl b rfl A1 s1 (fun _ h => h.1)) hS ?_
        try simp only [Act.put, List.setIfInBounds_toArray, List.set_cons_zero, List.set_cons_succ]
        refine wpAnyH_take (i := 1) (oi := { dst := some 40, op := Op.load 35 (Operand.tmp 3), type := 35, pos := "ref.go:55", after := #[], guard := none }) (v := Value.agg M) rfl (by kernel_rfl) (by kernel_rfl) (by kernel_rfl) (fun _ _ _ h => h) (yieldsIf_load_rw rfl 35 isT_rm (.tmp 3) rfl (b + 1) rfl M hM15 (fun _ h => h.2.2.2.2)) hS ?_
        try simp only [Act.put, List.setIfInBounds_toArray, List.set_cons_zero, List.set_cons_succ]
        refine wpAnyH_take (i := 3) (oi := { dst := some 42, op := Op.load 35 (Operand.tmp 7), type := 35, pos := "ref.go:55", after := #[{ on := 4, ground := Ground.gcOnly Departure.lateStores }], guard := none }) (v := Value.agg B1) rfl (by kernel_rfl) (by kernel_rfl) (by kernel_rfl) (fun _ _ _ h => h) (yieldsIf_load_rw rfl 35 isT_rm (.tmp 7) rfl d rfl B1 sB (fun _ h => h.2.1)) hS ?_
        try simp only [Act.put, List.setIfInBounds_toArray, List.set_cons_zero, List.set_cons_succ]
        refine wpAnyH_ready (rs := [2]) (by kernel_rfl) (by simp) ?_
        refine AllReadyH.cons (o := { dst := some 41, op := Op.call { callee := Callee.value (Operand.func 69), args := #[Operand.tmp 39, Operand.tmp 40, Operand.const (Value.int IntKind.u64 0), Operand.const (Value.int IntKind.u64 0)], argTypes := #[44, 35, 25, 25] }, type := 44, pos := "ref.go:55", after := #[{ on := 0, ground := Ground.data }, { on := 1, ground := Ground.data }], guard := none }) rfl (fun K hK => ?_) AllReadyH.nil
        rw [if_pos (by rfl)]
        refine wp_calls 69 #[.agg A1, .agg M, .int .u64 0, .int .u64 0] (by kernel_rfl) (fun v V => ∃ X, v = .agg X ∧ RF base V (f1.ended c f1.at_ 0 0) X ∧ Kept [] W V) ((rended_any c f1 A1 M base 0 0 W RF1 hM3 (by have := KV.size; omega) HLn.out).mono fun e w' ⟨X, h1, h2, h3⟩ => ⟨_, h1, X, rfl, h2, h3⟩) ?_
        rintro _ wC ⟨X, rfl, RX, KC⟩
        have sX : X.size = 12 := RX.size
        have oX : X.all (·.oneCell') = true := RX.one
        try simp only [Act.put, List.setIfInBounds_toArray, List.set_cons_zero, List.set_cons_succ]
        refine hK.out _ _ (⟨F1.kept KC (by simp), D1.kept KC (by simp), ⟨_, Z1.kept KC (by simp), rfl⟩, ⟨_, Y1.kept KC (by simp), rfl⟩, M1.kept KC (by simp)⟩) (fun hS => ?_)
        clear hK K
        refine wpAnyH_ready (rs := [4]) (by kernel_rfl) (by simp) ?_
        refine AllReadyH.cons (o := { dst := none, op := Op.store 44 (Operand.tmp 4) (Operand.tmp 41), type := 0, pos := "ref.go:55", after := #[{ on := 2, ground := Ground.data }, { on := 2, ground := Ground.chain }, { on := 0, ground := Ground.phase }, { on := 1, ground := Ground.phase }, { on := 2, ground := Ground.phase }, { on := 3, ground := Ground.textOnly Departure.lateStores }], guard := none }) rfl (fun K hK => ?_) AllReadyH.nil
        rw [if_pos (by rfl)]
        have F2 := F1.kept KC (by simp)
        have D2 := D1.kept KC (by simp)
        have Z2 := Z1.kept KC (by simp)
        have Y2 := Y1.kept KC (by simp)
        refine wp_store_row 44 (.tmp 4) (.tmp 41) rfl (b + 1 + 1) X rfl rfl 44 rfZ Z2 (by rw [isT_rf.1, sX]) (by rw [sX]; rfl) oX ?_
        have Z3 := Z2.row X
        have Y3 := Y2.rowOther X (c := b + 1 + 1) (by omega)
        have k3 := (Kept.refl [b + 1 + 1] wC).setRow (b := b + 1 + 1) (Or.inl (by simp)) X
        have RX3 := RX.far1 Z2 (by decide) k3
        have WV3 := (WV1.new KC).one Z2 (by decide) k3
        simp only [Act.put]
        refine hK.out _ _ (⟨F2.rowOther _ (by omega), D2.rowOther _ (by omega), ⟨_, Z3, sX⟩, ⟨_, Y3, rfl⟩, (M1.kept KC (by simp)).rowOther _ (by omega)⟩) (fun hS => ?_)
        clear hK K
        refine wpAnyH_ready (rs := [5]) (by kernel_rfl) (by simp) ?_
        refine AllReadyH.cons (o := { dst := none, op := Op.store 35 (Operand.tmp 5) (Operand.tmp 42), type := 0, pos := "ref.go:55", after := #[{ on := 3, ground := Ground.data }, { on := 4, ground := Ground.chain }, { on := 0, ground := Ground.phase }, { on := 1, ground := Ground.phase }, { on := 2, ground := Ground.phase }, { on := 3, ground := Ground.phase }, { on := 4, ground := Ground.phase }], guard := none }) rfl (fun K hK => ?_) AllReadyH.nil
        rw [if_pos (by rfl)]
        refine wp_store_row 35 (.tmp 5) (.tmp 42) rfl (b + 1 + 1 + 1) B1 rfl rfl 35 rmZ Y3 (by rw [isT_rm.1, sB]) (by rw [sB]; rfl) oB ?_
        have Z4 := Z3.rowOther B1 (c := b + 1 + 1 + 1) (by omega)
        have Y4 := Y3.row B1
        have k4 := (Kept.refl [b + 1 + 1 + 1] (wC.setRow (b + 1 + 1) X)).setRow (b := b + 1 + 1 + 1) (Or.inl (by simp)) B1
        have RX4 := RX3.far1 Y3 (by decide) k4
        have WV4 := WV3.one Y3 (by decide) k4
        simp only [Act.put]
        refine hK.out _ _ (⟨(F2.rowOther _ (by omega)).rowOther _ (by omega), (D2.rowOther _ (by omega)).rowOther _ (by omega), ⟨_, Z4, sX⟩, ⟨_, Y4, sB⟩, ((M1.kept KC (by simp)).rowOther _ (by omega)).rowOther _ (by omega)⟩) (fun hS => ?_)
        clear hK K
        refine wpAnyH_done (by kernel_rfl) ?_ _
        clear hS
        go_wp2
        refine bodyPost_ret (v := .tuple #[.agg X, .agg B1]) (results_rw2 Tryz.results64 isT_rf isT_rm _ _ (b + 1 + 1) (b + 1 + 1 + 1) X B1 sX sB rfl rfl Z4 Y4) rfl ⟨X, B1, rfl, (by rw [eQ.out]; exact RX4), WV4, ((KV.trans KC).setRow (Or.inr (by omega)) _).setRow (Or.inr (by omega)) _⟩
      | true =>
        rw [hvl] at HVl
        have eQ := hidOf (eQ1.out.trans (if_neg (by rw [hvl]; decide)))
        go_wp2_with fail
        refine (HMk.out W).mono ?_
        rintro e w5 ⟨rfl, K5⟩
        go_wp2_with fail
        refine (HVl.out w5).mono ?_
        rintro e w6 ⟨rfl, K6⟩
        have K5 := K5.trans K6
        have F0 := F0.kept K5 (by simp)
        have D0 := D0.kept K5 (by simp)
        have Z0 := Z0.kept K5 (by simp)
        have Y0 := Y0.kept K5 (by simp)
        have M0 := M0.kept K5 (by simp)
        have HX := hidOf (And.intro (HX.out.1.new K5) (And.intro (HX.out.2.1.new K5) (HX.out.2.2.trans K5)))
        clear K5 K6
        generalize w6 = W at F0 D0 Z0 Y0 M0 HX ⊢
        have p1 := cell_of_blk F0 (i := 1) HX.out.1.cells.2.1
        have p4 := cell_of_blk F0 (i := 4) HX.out.1.cells.2.2.2.2.1
        have hf := free_of_blk F0
        go_upto_region 11 with (fail)
        have k9 := ((Kept.refl [b] W).setCell (p := ⟨b, 4, none⟩) (Or.inl (by simp)) (.int .u64 Xo)).setCell (p := ⟨b, 1, none⟩) (Or.inl (by simp)) (.int .i64 1)
        have RX := (HX.out.1.setx Xo).setnx 1
        refine gen_world (fun V => RW 44 V b ((A1.setIfInBounds 4 (.int .u64 Xo)).setIfInBounds 1 (.int .i64 1)) ∧ RW 35 V d B1 ∧ RW 44 V (b + 1 + 1) rfZ ∧ RW 35 V (b + 1 + 1 + 1) rmZ ∧ RF base V { f1 with x := Xo, nx := 1 } ((A1.setIfInBounds 4 (.int .u64 Xo)).setIfInBounds 1 (.int .i64 1)) ∧ Wv w g c n cs (cnt + 1) AC B1 V ∧ Kept [] w V)
          ⟨(F0.set 4 _).set 1 _, D0.kept k9 (by simp; omega), Z0.kept k9 (by simp; omega), Y0.kept k9 (by simp; omega), RX.far1 F0 (by decide) k9, HX.out.2.1.one F0 (by decide) k9, HX.out.2.2.then k9 (by simp; omega)⟩ ?_
        rintro V ⟨F2, D2, Z2, Y2, RX2, WV2, KV2⟩
        obtain ⟨X, hX⟩ : ∃ X, X = (A1.setIfInBounds 4 (.int .u64 Xo)).setIfInBounds 1 (.int .i64 1) := ⟨_, rfl⟩
        rw [← hX] at F2 RX2
        have sX : X.size = 12 := RX2.size
        have oX : X.all (·.oneCell') = true := RX2.one
        clear RX k9 p1 p4 hf HX hX
        refine wp_ret2 isT_rf isT_rm (by kernel_rfl) (by kernel_rfl) (fun _ _ _ _ _ h => h) b d (b + 1 + 1) (b + 1 + 1 + 1) X B1 rfZ rmZ sX sB oX oB rfl rfl F2 D2 Z2 Y2 (by omega) (by omega) (by omega) (by omega) (by omega) rfl rfl rfl rfl rfl rfl ?_
        simp only [Act.put, List.setIfInBounds_toArray, List.set_cons_zero, List.set_cons_succ]
        go_wp2
        have Z3 := (RW.drew Z2).row X
        have Y3 := (RW.drew Y2).rowOther X (c := b + 1 + 1) (by omega)
        have k3 := (Kept.refl [b + 1 + 1] V).drew.setRow (b := b + 1 + 1) (Or.inl (by simp)) X
        have k4 := (Kept.refl [b + 1 + 1 + 1] (V.drew.setRow (b + 1 + 1) X)).setRow (b := b + 1 + 1 + 1) (Or.inl (by simp)) B1
        refine bodyPost_ret (v := .tuple #[.agg X, .agg B1]) (results_rw2 Tryz.results64 isT_rf isT_rm _ _ (b + 1 + 1) (b + 1 + 1 + 1) X B1 sX sB rfl rfl (Z3.rowOther B1 (by omega)) (Y3.row B1)) rfl ⟨X, B1, rfl, (by rw [eQ.out]; exact (RX2.far1 Z2 (by decide) k3).far1 Y3 (by decide) k4), (WV2.one Z2 (by decide) k3).one Y3 (by decide) k4, (KV2.drew.setRow (Or.inr (by omega)) _).setRow (Or.inr (by omega)) _⟩
  · have eAT : AT = f.at_ := HAT.out.trans (if_neg h0)
    have F00 := R2.c
    have RFa : RF base W f1 A := by rw [HF1.out, eAT]; exact RF2
    have HX : Hid (RF base W f1 A ∧ Wv w g c n cs (cnt + 1) AC B1 W ∧ Kept [] w W) := ⟨RFa, WV1, R2.k⟩
    have Z0 := R2.c'
    have Y0 := R2.m'
    have M0 := R2.m
    clear HAT eAT HR1 WV0 HRF KV R2 WV1 RF2 RFa HF1
    go_upto_region 5 with (fail)
    have F0 := F00
    clear F00
    have s1 := hA12
    generalize A = A1 at F0 HX s1 ⊢
    have sB : B1.size = 15 := HX.out.2.1.size
    have oB : B1.all (·.oneCell') = true := HX.out.2.1.allOne
    cases hmk : mkB Xo with
    | true =>
      rw [hmk] at HMk
      have eQ := hidOf (HQ.out.trans (if_pos hmk))
      go_wp2_with fail
      refine (HMk.out W).mono ?_
      rintro e w5 ⟨rfl, K5⟩
      have F0 := F0.kept K5 (by simp)
      have D0 := D0.kept K5 (by simp)
      have Z0 := Z0.kept K5 (by simp)
      have Y0 := Y0.kept K5 (by simp)
      have M0 := M0.kept K5 (by simp)
      have HX := hidOf (And.intro (HX.out.1.new K5) (And.intro (HX.out.2.1.new K5) (HX.out.2.2.trans K5)))
      clear K5
      generalize w5 = W at F0 D0 Z0 Y0 M0 HX ⊢
      go_upto_region 6 with (fail)
      refine wp_region_held_drew (S := fun w' => RW 44 w' b A1 ∧ RW 35 w' d B1 ∧ (∃ O, RW 44 w' (b + 1 + 1) O ∧ O.size = 12) ∧ (∃ O, RW 35 w' (b + 1 + 1 + 1) O ∧ O.size = 15)) (by kernel_rfl) ⟨F0.drew, D0.drew, ⟨_, Z0.drew, rfl⟩, ⟨_, Y0.drew, rfl⟩⟩ (fun hS => ?_)
      have F1 : RW 44 W.drew b A1 := F0
      have D1 : RW 35 W.drew d B1 := D0
      have Z1 : RW 44 W.drew (b + 1 + 1) rfZ := Z0
      have Y1 : RW 35 W.drew (b + 1 + 1 + 1) rmZ := Y0
      have M1 : RW 35 W.drew (b + 1) M := M0
      have KV : Kept [] w W.drew := HX.out.2.2.drew
      have RF1 : RF base W.drew f1 A1 := HX.out.1.new (Kept.refl [] W).drew
      have WV1 : Wv w g c n cs (cnt + 1) AC B1 W.drew := HX.out.2.1.new (Kept.refl [] W).drew
      clear F0 D0 Z0 Y0 M0 HX
      generalize W.drew = W at F1 D1 Z1 Y1 M1 KV RF1 WV1 hS ⊢
      refine wpAnyH_take (i := 0) (oi := { dst := some 33, op := Op.load 44 (Operand.tmp 2), type := 44, pos := "ref.go:52", after := #[], guard := none }) (v := Value.agg A1) rfl (by kernel_rfl) (by kernel_rfl) (by kernel_rfl) (fun _ _ _ h => h) (yieldsIf_load_rw rfl 44 isT_rf (.tmp 2) rfl b rfl A1 s1 (fun _ h => h.1)) hS ?_
      try simp only [Act.put, List.setIfInBounds_toArray, List.set_cons_zero, List.set_cons_succ]
      refine wpAnyH_take (i := 2) (oi := { dst := some 35, op := Op.load 35 (Operand.tmp 7), type := 35, pos := "ref.go:52", after := #[{ on := 3, ground := Ground.gcOnly Departure.lateStores }], guard := none }) (v := Value.agg B1) rfl (by kernel_rfl) (by kernel_rfl) (by kernel_rfl) (fun _ _ _ h => h) (yieldsIf_load_rw rfl 35 isT_rm (.tmp 7) rfl d rfl B1 sB (fun _ h => h.2.1)) hS ?_
      try simp only [Act.put, List.setIfInBounds_toArray, List.set_cons_zero, List.set_cons_succ]
      refine wpAnyH_ready (rs := [1]) (by kernel_rfl) (by simp) ?_
      refine AllReadyH.cons (o := { dst := some 34, op := Op.call { callee := Callee.value (Operand.func 59), args := #[Operand.tmp 33], argTypes := #[44] }, type := 44, pos := "ref.go:52", after := #[{ on := 0, ground := Ground.data }], guard := none }) rfl (fun K hK => ?_) AllReadyH.nil
      rw [if_pos (by rfl)]
      obtain ⟨X, hX⟩ : ∃ X, X = rfA (f1.anew f1.at_) none 0 0 none 0 0 none 0 0 := ⟨_, rfl⟩
      have sX : X.size = 12 := by rw [hX]; rfl
      have oX : X.all (·.oneCell') = true := by rw [hX]; exact rf_one _ _ _ _ _ _ _ _ _ _
      have AN := rfanewA RF1
      rw [← hX] at AN
      refine wp_calls 59 #[.agg A1] (by kernel_rfl) (fun v V => v = .agg X ∧ Kept [] W V) (AN.mono fun e w' hh => ⟨_, hh.1, rfl, hh.2⟩) ?_
      rintro _ wC ⟨rfl, KC⟩
      have RX : RF base wC (f1.anew f1.at_) X := by rw [hX]; exact RF.anew _ _ _ _
      try simp only [Act.put, List.setIfInBounds_toArray, List.set_cons_zero, List.set_cons_succ]
      refine hK.out _ _ (⟨F1.kept KC (by simp), D1.kept KC (by simp), ⟨_, Z1.kept KC (by simp), rfl⟩, ⟨_, Y1.kept KC (by simp), rfl⟩⟩) (fun hS => ?_)
      clear hK K
      refine wpAnyH_ready (rs := [3]) (by kernel_rfl) (by simp) ?_
      refine AllReadyH.cons (o := { dst := none, op := Op.store 44 (Operand.tmp 4) (Operand.tmp 34), type := 0, pos := "ref.go:52", after := #[{ on := 1, ground := Ground.data }, { on := 1, ground := Ground.chain }, { on := 0, ground := Ground.phase }, { on := 1, ground := Ground.phase }, { on := 2, ground := Ground.textOnly Departure.lateStores }], guard := none }) rfl (fun K hK => ?_) AllReadyH.nil
      rw [if_pos (by rfl)]
      have F2 := F1.kept KC (by simp)
      have D2 := D1.kept KC (by simp)
      have Z2 := Z1.kept KC (by simp)
      have Y2 := Y1.kept KC (by simp)
      refine wp_store_row 44 (.tmp 4) (.tmp 34) rfl (b + 1 + 1) X rfl rfl 44 rfZ Z2 (by rw [isT_rf.1, sX]) (by rw [sX]; rfl) oX ?_
      have Z3 := Z2.row X
      have Y3 := Y2.rowOther X (c := b + 1 + 1) (by omega)
      have k3 := (Kept.refl [b + 1 + 1] wC).setRow (b := b + 1 + 1) (Or.inl (by simp)) X
      have RX3 := RX.far1 Z2 (by decide) k3
      have WV3 := (WV1.new KC).one Z2 (by decide) k3
      simp only [Act.put]
      refine hK.out _ _ (⟨F2.rowOther _ (by omega), D2.rowOther _ (by omega), ⟨_, Z3, sX⟩, ⟨_, Y3, rfl⟩⟩) (fun hS => ?_)
      clear hK K
      refine wpAnyH_ready (rs := [4]) (by kernel_rfl) (by simp) ?_
      refine AllReadyH.cons (o := { dst := none, op := Op.store 35 (Operand.tmp 5) (Operand.tmp 35), type := 0, pos := "ref.go:52", after := #[{ on := 2, ground := Ground.data }, { on := 3, ground := Ground.chain }, { on := 0, ground := Ground.phase }, { on := 1, ground := Ground.phase }, { on := 2, ground := Ground.phase }, { on := 3, ground := Ground.phase }], guard := none }) rfl (fun K hK => ?_) AllReadyH.nil
      rw [if_pos (by rfl)]
      refine wp_store_row 35 (.tmp 5) (.tmp 35) rfl (b + 1 + 1 + 1) B1 rfl rfl 35 rmZ Y3 (by rw [isT_rm.1, sB]) (by rw [sB]; rfl) oB ?_
      have Z4 := Z3.rowOther B1 (c := b + 1 + 1 + 1) (by omega)
      have Y4 := Y3.row B1
      have k4 := (Kept.refl [b + 1 + 1 + 1] (wC.setRow (b + 1 + 1) X)).setRow (b := b + 1 + 1 + 1) (Or.inl (by simp)) B1
      have RX4 := RX3.far1 Y3 (by decide) k4
      have WV4 := WV3.one Y3 (by decide) k4
      simp only [Act.put]
      refine hK.out _ _ (⟨(F2.rowOther _ (by omega)).rowOther _ (by omega), (D2.rowOther _ (by omega)).rowOther _ (by omega), ⟨_, Z4, sX⟩, ⟨_, Y4, sB⟩⟩) (fun hS => ?_)
      clear hK K
      refine wpAnyH_done (by kernel_rfl) ?_ _
      clear hS
      go_wp2
      refine bodyPost_ret (v := .tuple #[.agg X, .agg B1]) (results_rw2 Tryz.results64 isT_rf isT_rm _ _ (b + 1 + 1) (b + 1 + 1 + 1) X B1 sX sB rfl rfl Z4 Y4) rfl ⟨X, B1, rfl, (by rw [eQ.out]; exact RX4), WV4, ((KV.trans KC).setRow (Or.inr (by omega)) _).setRow (Or.inr (by omega)) _⟩
    | false =>
      rw [hmk] at HMk
      have eQ1 := hidOf (HQ.out.trans (if_neg (by rw [hmk]; decide)))
      cases hvl : vlB Xo with
      | false =>
        rw [hvl] at HVl
        have eQ := hidOf (eQ1.out.trans (if_pos hvl))
        go_wp2_with fail
        refine (HMk.out W).mono ?_
        rintro e w5 ⟨rfl, K5⟩
        go_wp2_with fail
        refine (HVl.out w5).mono ?_
        rintro e w6 ⟨rfl, K6⟩
        have K5 := K5.trans K6
        have F0 := F0.kept K5 (by simp)
        have D0 := D0.kept K5 (by simp)
        have Z0 := Z0.kept K5 (by simp)
        have Y0 := Y0.kept K5 (by simp)
        have M0 := M0.kept K5 (by simp)
        have HX := hidOf (And.intro (HX.out.1.new K5) (And.intro (HX.out.2.1.new K5) (HX.out.2.2.trans K5)))
        clear K5 K6
        generalize w6 = W at F0 D0 Z0 Y0 M0 HX ⊢
        go_upto_region 8 with (fail)
        refine wp_region_held_drew (S := fun w' => RW 44 w' b A1 ∧ RW 35 w' d B1 ∧ (∃ O, RW 44 w' (b + 1 + 1) O ∧ O.size = 12) ∧ (∃ O, RW 35 w' (b + 1 + 1 + 1) O ∧ O.size = 15) ∧ RW 35 w' (b + 1) M) (by kernel_rfl) ⟨F0.drew, D0.drew, ⟨_, Z0.drew, rfl⟩, ⟨_, Y0.drew, rfl⟩, M0.drew⟩ (fun hS => ?_)
        have F1 : RW 44 W.drew b A1 := F0
        have D1 : RW 35 W.drew d B1 := D0
        have Z1 : RW 44 W.drew (b + 1 + 1) rfZ := Z0
        have Y1 : RW 35 W.drew (b + 1 + 1 + 1) rmZ := Y0
        have M1 : RW 35 W.drew (b + 1) M := M0
        have KV : Kept [] w W.drew := HX.out.2.2.drew
        have RF1 : RF base W.drew f1 A1 := HX.out.1.new (Kept.refl [] W).drew
        have WV1 : Wv w g c n cs (cnt + 1) AC B1 W.drew := HX.out.2.1.new (Kept.refl [] W).drew
        clear F0 D0 Z0 Y0 M0 HX
        generalize W.drew = W at F1 D1 Z1 Y1 M1 KV RF1 WV1 hS ⊢
        refine wpAnyH_take (i := 0) (oi := { dst := some 39, op := Op.load 44 (Operand.tmp 2), type := 44, pos := "ref.go:55", after := #[], guard := none }) (v := Value.agg A1) rfl (by kernel_rfl) (by kernel_rfl) (by kernel_rfl) (fun _ _ _ h => h) (yieldsIf_load_rw rfl 44 isT_rf (.tmp 2) rfl b rfl A1 s1 (fun _ h => h.1)) hS ?_
        try simp only [Act.put, List.setIfInBounds_toArray, List.set_cons_zero, List.set_cons_succ]
        refine wpAnyH_take (i := 1) (oi := { dst := some 40, op := Op.load 35 (Operand.tmp 3), type := 35, pos := "ref.go:55", after := #[], guard := none }) (v := Value.agg M) rfl (by kernel_rfl) (by kernel_rfl) (by kernel_rfl) (fun _ _ _ h => h) (yieldsIf_load_rw rfl 35 isT_rm (.tmp 3) rfl (b + 1) rfl M hM15 (fun _ h => h.2.2.2.2)) hS ?_
        try simp only [Act.put, List.setIfInBounds_toArray, List.set_cons_zero, List.set_cons_succ]
        refine wpAnyH_take (i := 3) (oi := { dst := some 42, op := Op.load 35 (Operand.tmp 7), type := 35, pos := "ref.go:55", after := #[{ on := 4, ground := Ground.gcOnly Departure.lateStores }], guard := none }) (v := Value.agg B1) rfl (by kernel_rfl) (by kernel_rfl) (by kernel_rfl) (fun _ _ _ h => h) (yieldsIf_load_rw rfl 35 isT_rm (.tmp 7) rfl d rfl B1 sB (fun _ h => h.2.1)) hS ?_
        try simp only [Act.put, List.setIfInBounds_toArray, List.set_cons_zero, List.set_cons_succ]
        refine wpAnyH_ready (rs := [2]) (by kernel_rfl) (by simp) ?_
        refine AllReadyH.cons (o := { dst := some 41, op := Op.call { callee := Callee.value (Operand.func 69), args := #[Operand.tmp 39, Operand.tmp 40, Operand.const (Value.int IntKind.u64 0), Operand.const (Value.int IntKind.u64 0)], argTypes := #[44, 35, 25, 25] }, type := 44, pos := "ref.go:55", after := #[{ on := 0, ground := Ground.data }, { on := 1, ground := Ground.data }], guard := none }) rfl (fun K hK => ?_) AllReadyH.nil
        rw [if_pos (by rfl)]
        refine wp_calls 69 #[.agg A1, .agg M, .int .u64 0, .int .u64 0] (by kernel_rfl) (fun v V => ∃ X, v = .agg X ∧ RF base V (f1.ended c f1.at_ 0 0) X ∧ Kept [] W V) ((rended_any c f1 A1 M base 0 0 W RF1 hM3 (by have := KV.size; omega) HLn.out).mono fun e w' ⟨X, h1, h2, h3⟩ => ⟨_, h1, X, rfl, h2, h3⟩) ?_
        rintro _ wC ⟨X, rfl, RX, KC⟩
        have sX : X.size = 12 := RX.size
        have oX : X.all (·.oneCell') = true := RX.one
        try simp only [Act.put, List.setIfInBounds_toArray, List.set_cons_zero, List.set_cons_succ]
        refine hK.out _ _ (⟨F1.kept KC (by simp), D1.kept KC (by simp), ⟨_, Z1.kept KC (by simp), rfl⟩, ⟨_, Y1.kept KC (by simp), rfl⟩, M1.kept KC (by simp)⟩) (fun hS => ?_)
        clear hK K
        refine wpAnyH_ready (rs := [4]) (by kernel_rfl) (by simp) ?_
        refine AllReadyH.cons (o := { dst := none, op := Op.store 44 (Operand.tmp 4) (Operand.tmp 41), type := 0, pos := "ref.go:55", after := #[{ on := 2, ground := Ground.data }, { on := 2, ground := Ground.chain }, { on := 0, ground := Ground.phase }, { on := 1, ground := Ground.phase }, { on := 2, ground := Ground.phase }, { on := 3, ground := Ground.textOnly Departure.lateStores }], guard := none }) rfl (fun K hK => ?_) AllReadyH.nil
        rw [if_pos (by rfl)]
        have F2 := F1.kept KC (by simp)
        have D2 := D1.kept KC (by simp)
        have Z2 := Z1.kept KC (by simp)
        have Y2 := Y1.kept KC (by simp)
        refine wp_store_row 44 (.tmp 4) (.tmp 41) rfl (b + 1 + 1) X rfl rfl 44 rfZ Z2 (by rw [isT_rf.1, sX]) (by rw [sX]; rfl) oX ?_
        have Z3 := Z2.row X
        have Y3 := Y2.rowOther X (c := b + 1 + 1) (by omega)
        have k3 := (Kept.refl [b + 1 + 1] wC).setRow (b := b + 1 + 1) (Or.inl (by simp)) X
        have RX3 := RX.far1 Z2 (by decide) k3
        have WV3 := (WV1.new KC).one Z2 (by decide) k3
        simp only [Act.put]
        refine hK.out _ _ (⟨F2.rowOther _ (by omega), D2.rowOther _ (by omega), ⟨_, Z3, sX⟩, ⟨_, Y3, rfl⟩, (M1.kept KC (by simp)).rowOther _ (by omega)⟩) (fun hS => ?_)
        clear hK K
        refine wpAnyH_ready (rs := [5]) (by kernel_rfl) (by simp) ?_
        refine AllReadyH.cons (o := { dst := none, op := Op.store 35 (Operand.tmp 5) (Operand.tmp 42), type := 0, pos := "ref.go:55", after := #[{ on := 3, ground := Ground.data }, { on := 4, ground := Ground.chain }, { on := 0, ground := Ground.phase }, { on := 1, ground := Ground.phase }, { on := 2, ground := Ground.phase }, { on := 3, ground := Ground.phase }, { on := 4, ground := Ground.phase }], guard := none }) rfl (fun K hK => ?_) AllReadyH.nil
        rw [if_pos (by rfl)]
        refine wp_store_row 35 (.tmp 5) (.tmp 42) rfl (b + 1 + 1 + 1) B1 rfl rfl 35 rmZ Y3 (by rw [isT_rm.1, sB]) (by rw [sB]; rfl) oB ?_
        have Z4 := Z3.rowOther B1 (c := b + 1 + 1 + 1) (by omega)
        have Y4 := Y3.row B1
        have k4 := (Kept.refl [b + 1 + 1 + 1] (wC.setRow (b + 1 + 1) X)).setRow (b := b + 1 + 1 + 1) (Or.inl (by simp)) B1
        have RX4 := RX3.far1 Y3 (by decide) k4
        have WV4 := WV3.one Y3 (by decide) k4
        simp only [Act.put]
        refine hK.out _ _ (⟨(F2.rowOther _ (by omega)).rowOther _ (by omega), (D2.rowOther _ (by omega)).rowOther _ (by omega), ⟨_, Z4, sX⟩, ⟨_, Y4, sB⟩, ((M1.kept KC (by simp)).rowOther _ (by omega)).rowOther _ (by omega)⟩) (fun hS => ?_)
        clear hK K
        refine wpAnyH_done (by kernel_rfl) ?_ _
        clear hS
        go_wp2
        refine bodyPost_ret (v := .tuple #[.agg X, .agg B1]) (results_rw2 Tryz.results64 isT_rf isT_rm _ _ (b + 1 + 1) (b + 1 + 1 + 1) X B1 sX sB rfl rfl Z4 Y4) rfl ⟨X, B1, rfl, (by rw [eQ.out]; exact RX4), WV4, ((KV.trans KC).setRow (Or.inr (by omega)) _).setRow (Or.inr (by omega)) _⟩
      | true =>
        rw [hvl] at HVl
        have eQ := hidOf (eQ1.out.trans (if_neg (by rw [hvl]; decide)))
        go_wp2_with fail
        refine (HMk.out W).mono ?_
        rintro e w5 ⟨rfl, K5⟩
        go_wp2_with fail
        refine (HVl.out w5).mono ?_
        rintro e w6 ⟨rfl, K6⟩
        have K5 := K5.trans K6
        have F0 := F0.kept K5 (by simp)
        have D0 := D0.kept K5 (by simp)
        have Z0 := Z0.kept K5 (by simp)
        have Y0 := Y0.kept K5 (by simp)
        have M0 := M0.kept K5 (by simp)
        have HX := hidOf (And.intro (HX.out.1.new K5) (And.intro (HX.out.2.1.new K5) (HX.out.2.2.trans K5)))
        clear K5 K6
        generalize w6 = W at F0 D0 Z0 Y0 M0 HX ⊢
        have p1 := cell_of_blk F0 (i := 1) HX.out.1.cells.2.1
        have p4 := cell_of_blk F0 (i := 4) HX.out.1.cells.2.2.2.2.1
        have hf := free_of_blk F0
        go_upto_region 11 with (fail)
        have k9 := ((Kept.refl [b] W).setCell (p := ⟨b, 4, none⟩) (Or.inl (by simp)) (.int .u64 Xo)).setCell (p := ⟨b, 1, none⟩) (Or.inl (by simp)) (.int .i64 1)
        have RX := (HX.out.1.setx Xo).setnx 1
        refine gen_world (fun V => RW 44 V b ((A1.setIfInBounds 4 (.int .u64 Xo)).setIfInBounds 1 (.int .i64 1)) ∧ RW 35 V d B1 ∧ RW 44 V (b + 1 + 1) rfZ ∧ RW 35 V (b + 1 + 1 + 1) rmZ ∧ RF base V { f1 with x := Xo, nx := 1 } ((A1.setIfInBounds 4 (.int .u64 Xo)).setIfInBounds 1 (.int .i64 1)) ∧ Wv w g c n cs (cnt + 1) AC B1 V ∧ Kept [] w V)
          ⟨(F0.set 4 _).set 1 _, D0.kept k9 (by simp; omega), Z0.kept k9 (by simp; omega), Y0.kept k9 (by simp; omega), RX.far1 F0 (by decide) k9, HX.out.2.1.one F0 (by decide) k9, HX.out.2.2.then k9 (by simp; omega)⟩ ?_
        rintro V ⟨F2, D2, Z2, Y2, RX2, WV2, KV2⟩
        obtain ⟨X, hX⟩ : ∃ X, X = (A1.setIfInBounds 4 (.int .u64 Xo)).setIfInBounds 1 (.int .i64 1) := ⟨_, rfl⟩
        rw [← hX] at F2 RX2
        have sX : X.size = 12 := RX2.size
        have oX : X.all (·.oneCell') = true := RX2.one
        clear RX k9 p1 p4 hf HX hX
        refine wp_ret2 isT_rf isT_rm (by kernel_rfl) (by kernel_rfl) (fun _ _ _ _ _ h => h) b d (b + 1 + 1) (b + 1 + 1 + 1) X B1 rfZ rmZ sX sB oX oB rfl rfl F2 D2 Z2 Y2 (by omega) (by omega) (by omega) (by omega) (by omega) rfl rfl rfl rfl rfl rfl ?_
        simp only [Act.put, List.setIfInBounds_toArray, List.set_cons_zero, List.set_cons_succ]
        go_wp2
        have Z3 := (RW.drew Z2).row X
        have Y3 := (RW.drew Y2).rowOther X (c := b + 1 + 1) (by omega)
        have k3 := (Kept.refl [b + 1 + 1] V).drew.setRow (b := b + 1 + 1) (Or.inl (by simp)) X
        have k4 := (Kept.refl [b + 1 + 1 + 1] (V.drew.setRow (b + 1 + 1) X)).setRow (b := b + 1 + 1 + 1) (Or.inl (by simp)) B1
        refine bodyPost_ret (v := .tuple #[.agg X, .agg B1]) (results_rw2 Tryz.results64 isT_rf isT_rm _ _ (b + 1 + 1) (b + 1 + 1 + 1) X B1 sX sB rfl rfl (Z3.rowOther B1 (by omega)) (Y3.row B1)) rfl ⟨X, B1, rfl, (by rw [eQ.out]; exact (RX2.far1 Z2 (by decide) k3).far1 Y3 (by decide) k4), (WV2.one Z2 (by decide) k3).one Y3 (by decide) k4, (KV2.drew.setRow (Or.inr (by omega)) _).setRow (Or.inr (by omega)) _⟩
end K
end Go.Proofs.YtgafmklfpiipcaaGreatDoor
namespace Go.Proofs.YtgafmklfpiipcaaGreatDoor
open Go.RowKit (Grown Hid Below)
open Go.Deep
namespace K
set_option maxRecDepth 100000
/-- 'return x, y, z': three structs are given back. -/
def ret3 (d1 d2 d3 x1 x2 x3 y1 y2 y3 : Nat) (p1 p2 p3 p4 p5 p6 : String) (T1 T2 T3 : Nat) : Array Oper := #[{ dst := some d1, op := .load T1 (.tmp x1), type := T1, pos := p1, after := #[], guard := none }, 
      { dst := some d2, op := .load T2 (.tmp x2), type := T2, pos := p2, after := #[{ on := 3, ground := .gcOnly .lateStores }], guard := none }, 
      { dst := some d3, op := .load T3 (.tmp x3), type := T3, pos := p3, after := #[{ on := 4, ground := .gcOnly .lateStores }], guard := none }, 
      { dst := none, op := .store T1 (.tmp y1) (.tmp d1), type := 0, pos := p4, after := #[{ on := 0, ground := .data }, { on := 0, ground := .phase }, { on := 1, ground := .textOnly .lateStores }, { on := 2, ground := .textOnly .lateStores }], guard := none }, 
      { dst := none, op := .store T2 (.tmp y2) (.tmp d2), type := 0, pos := p5, after := #[{ on := 1, ground := .data }, { on := 3, ground := .chain }, { on := 0, ground := .phase }, { on := 1, ground := .phase }, { on := 2, ground := .textOnly .lateStores }, { on := 3, ground := .phase }], guard := none }, 
      { dst := none, op := .store T3 (.tmp y3) (.tmp d3), type := 0, pos := p6, after := #[{ on := 2, ground := .data }, { on := 4, ground := .chain }, { on := 0, ground := .phase }, { on := 1, ground := .phase }, { on := 2, ground := .phase }, { on := 3, ground := .phase }, { on := 4, ground := .phase }], guard := none }]
/-- The blocks with which a function of three structs begins that gives back three. -/
structure R6 (w W : World) (b : Nat) (A M G : Array Value) : Prop where
  f : RW 44 W b A
  m : RW 35 W (b + 1) M
  g : RW 51 W (b + 1 + 1) G
  x : RW 44 W (b + 1 + 1 + 1) rfZ
  y : RW 35 W (b + 1 + 1 + 1 + 1) rmZ
  z : RW 51 W (b + 1 + 1 + 1 + 1 + 1) rgZ
  k : Kept [] w W
  old : w.heap.size ≤ b
theorem R6.start (w : World) (A M G : Array Value) {b : Nat} (hb : b = w.heap.size) : R6 w ((((((w.alloc (.cells A 44)).alloc (.cells M 35)).alloc (.cells G 51)).alloc (.cells rfZ 44)).alloc (.cells rmZ 35)).alloc (.cells rgZ 51)) b A M G := by
  subst hb
  refine ⟨(((((RW.new _ _ _).up _).up _).up _).up _).up _, ?_, ?_, ?_, ?_, ?_, ((((((Kept.refl [] w).alloc _).alloc _).alloc _).alloc _).alloc _).alloc _, Nat.le_refl _⟩
  · have z := ((((RW.new 35 (w.alloc (.cells A 44)) M).up (.cells G 51)).up (.cells rfZ 44)).up (.cells rmZ 35)).up (.cells rgZ 51); rw [nblk_alloc] at z; exact z
  · have z := (((RW.new 51 ((w.alloc (.cells A 44)).alloc (.cells M 35)) G).up (.cells rfZ 44)).up (.cells rmZ 35)).up (.cells rgZ 51); rw [nblk_alloc, nblk_alloc] at z; exact z
  · have z := ((RW.new 44 (((w.alloc (.cells A 44)).alloc (.cells M 35)).alloc (.cells G 51)) rfZ).up (.cells rmZ 35)).up (.cells rgZ 51); rw [nblk_alloc, nblk_alloc, nblk_alloc] at z; exact z
  · have z := (RW.new 35 ((((w.alloc (.cells A 44)).alloc (.cells M 35)).alloc (.cells G 51)).alloc (.cells rfZ 44)) rmZ).up (.cells rgZ 51); rw [nblk_alloc, nblk_alloc, nblk_alloc, nblk_alloc] at z; exact z
  · have z := RW.new 51 (((((w.alloc (.cells A 44)).alloc (.cells M 35)).alloc (.cells G 51)).alloc (.cells rfZ 44)).alloc (.cells rmZ 35)) rgZ; rw [nblk_alloc, nblk_alloc, nblk_alloc, nblk_alloc, nblk_alloc] at z; exact z
theorem R6.new {w W V : World} {b : Nat} {A M G : Array Value} (h : R6 w W b A M G) (k : Kept [] W V) : R6 w V b A M G :=
  ⟨h.f.kept k (by simp), h.m.kept k (by simp), h.g.kept k (by simp), h.x.kept k (by simp), h.y.kept k (by simp), h.z.kept k (by simp), h.k.trans k, h.old⟩
theorem R6.setF {w W : World} {b : Nat} {A M G : Array Value} (h : R6 w W b A M G) (X : Array Value) : R6 w (W.setRow b X) b X M G :=
  ⟨h.f.row X, h.m.rowOther X (by omega), h.g.rowOther X (by omega), h.x.rowOther X (by omega), h.y.rowOther X (by omega), h.z.rowOther X (by omega), h.k.setRow (Or.inr h.old) X, h.old⟩
theorem R6.setM {w W : World} {b : Nat} {A M G : Array Value} (h : R6 w W b A M G) (X : Array Value) : R6 w (W.setRow (b + 1) X) b A X G :=
  ⟨h.f.rowOther X (by omega), h.m.row X, h.g.rowOther X (by omega), h.x.rowOther X (by omega), h.y.rowOther X (by omega), h.z.rowOther X (by omega), h.k.setRow (Or.inr (by have := h.old; omega)) X, h.old⟩
theorem R6.setG {w W : World} {b : Nat} {A M G : Array Value} (h : R6 w W b A M G) (X : Array Value) : R6 w (W.setRow (b + 1 + 1) X) b A M X :=
  ⟨h.f.rowOther X (by omega), h.m.rowOther X (by omega), h.g.row X, h.x.rowOther X (by omega), h.y.rowOther X (by omega), h.z.rowOther X (by omega), h.k.setRow (Or.inr (by have := h.old; omega)) X, h.old⟩
theorem R6.cell {w W : World} {b : Nat} {A M G : Array Value} (h : R6 w W b A M G) (i : Nat) (v : Value) : R6 w (W.setCell ⟨b, i, none⟩ v) b (A.setIfInBounds i v) M G := by
  have k : Kept [b] W (W.setCell ⟨b, i, none⟩ v) := (Kept.refl [b] W).setCell (Or.inl (by simp)) v
  exact ⟨h.f.set i v, h.m.kept k (by simp), h.g.kept k (by simp; omega), h.x.kept k (by simp; omega), h.y.kept k (by simp; omega), h.z.kept k (by simp; omega), h.k.then k (by simp; exact h.old), h.old⟩
theorem k_row (W : World) (b : Nat) (X : Array Value) : Kept [b] W (W.setRow b X) := (Kept.refl [b] W).setRow (Or.inl (by simp)) X
theorem k_cell (W : World) (b i : Nat) (v : Value) : Kept [b] W (W.setCell ⟨b, i, none⟩ v) := (Kept.refl [b] W).setCell (Or.inl (by simp)) v
/-- The machine, the words and where they lie, and the blocks. -/
structure Q6 (w W : World) (b base g : Nat) (c : Cfg) (n : Nat) (f : Fm) (cs : List Int) (cnt : Int) (a : Acc) (A M G : Array Value) : Prop where
  r : R6 w W b A M G
  f : RF base W f A
  v : Wv w g c n cs cnt a M W
theorem Q6.setF {w W : World} {b base g : Nat} {c : Cfg} {n : Nat} {f f' : Fm} {cs : List Int} {cnt : Int} {a : Acc} {A M G X : Array Value} (h : Q6 w W b base g c n f cs cnt a A M G) (hX : RF base W f' X) : Q6 w (W.setRow b X) b base g c n f' cs cnt a X M G :=
  ⟨h.r.setF X, hX.far1 h.r.f (by decide) (k_row W b X), h.v.one h.r.f (by decide) (k_row W b X)⟩
theorem Q6.new {w W V : World} {b base g : Nat} {c : Cfg} {n : Nat} {f : Fm} {cs : List Int} {cnt : Int} {a : Acc} {A M G : Array Value} (h : Q6 w W b base g c n f cs cnt a A M G) (k : Kept [] W V) : Q6 w V b base g c n f cs cnt a A M G :=
  ⟨h.r.new k, h.f.new k, h.v.new k⟩
/-- The words are written into their block. -/
theorem Q6.ofM {w W : World} {b base g : Nat} {c : Cfg} {n : Nat} {f : Fm} {cs : List Int} {cnt : Int} {a : Acc} {A M G B : Array Value} (r : R6 w W b A M G) (hf : RF base W f A) (hv : Wv w g c n cs cnt a B W) : Q6 w (W.setRow (b + 1) B) b base g c n f cs cnt a A B G :=
  ⟨r.setM B, hf.far1 r.m (by decide) (k_row W (b + 1) B), hv.one r.m (by decide) (k_row W (b + 1) B)⟩
theorem Q6.setG {w W : World} {b base g : Nat} {c : Cfg} {n : Nat} {f : Fm} {cs : List Int} {cnt : Int} {a : Acc} {A M G : Array Value} (h : Q6 w W b base g c n f cs cnt a A M G) (X : Array Value) : Q6 w (W.setRow (b + 1 + 1) X) b base g c n f cs cnt a A M X :=
  ⟨h.r.setG X, h.f.far1 h.r.g (by decide) (k_row W (b + 1 + 1) X), h.v.one h.r.g (by decide) (k_row W (b + 1 + 1) X)⟩
/-- One cell of the machine's block is written. -/
theorem Q6.cell {w W : World} {b base g : Nat} {c : Cfg} {n : Nat} {f f' : Fm} {cs : List Int} {cnt : Int} {a : Acc} {A M G : Array Value} {i : Nat} {v : Value} (h : Q6 w W b base g c n f cs cnt a A M G) (hf : RF base W f' (A.setIfInBounds i v)) : Q6 w (W.setCell ⟨b, i, none⟩ v) b base g c n f' cs cnt a (A.setIfInBounds i v) M G :=
  ⟨h.r.cell i v, hf.far1 h.r.f (by decide) (k_cell W b i v), h.v.one h.r.f (by decide) (k_cell W b i v)⟩
theorem Q6.nx {w W : World} {b base g : Nat} {c : Cfg} {n : Nat} {f : Fm} {cs : List Int} {cnt : Int} {a : Acc} {A M G : Array Value} (h : Q6 w W b base g c n f cs cnt a A M G) (v : Nat) : Q6 w (W.setCell ⟨b, 1, none⟩ (.int .i64 v)) b base g c n { f with nx := v } cs cnt a (A.setIfInBounds 1 (.int .i64 v)) M G := h.cell (h.f.setnx v)
theorem Q6.pr {w W : World} {b base g : Nat} {c : Cfg} {n : Nat} {f : Fm} {cs : List Int} {cnt : Int} {a : Acc} {A M G : Array Value} (h : Q6 w W b base g c n f cs cnt a A M G) (v : Int) : Q6 w (W.setCell ⟨b, 3, none⟩ (.int .u64 v)) b base g c n { f with pr := v } cs cnt a (A.setIfInBounds 3 (.int .u64 v)) M G := h.cell (h.f.setpr v)
theorem Q6.s {w W : World} {b base g : Nat} {c : Cfg} {n : Nat} {f : Fm} {cs : List Int} {cnt : Int} {a : Acc} {A M G : Array Value} (h : Q6 w W b base g c n f cs cnt a A M G) (v : Int) : Q6 w (W.setCell ⟨b, 5, none⟩ (.int .u64 v)) b base g c n { f with s := v } cs cnt a (A.setIfInBounds 5 (.int .u64 v)) M G := h.cell (h.f.sets v)
theorem Q6.era {w W : World} {b base g : Nat} {c : Cfg} {n : Nat} {f : Fm} {cs : List Int} {cnt : Int} {a : Acc} {A M G : Array Value} (h : Q6 w W b base g c n f cs cnt a A M G) (v : Int) : Q6 w (W.setCell ⟨b, 6, none⟩ (.int .u64 v)) b base g c n { f with era := v } cs cnt a (A.setIfInBounds 6 (.int .u64 v)) M G := h.cell (h.f.setera v)
/-- What is given back. -/
structure E6 (w W : World) (b base g : Nat) (c : Cfg) (n : Nat) (f : Fm) (cs : List Int) (cnt : Int) (a : Acc) (A M G : Array Value) : Prop where
  x : RW 44 W (b + 1 + 1 + 1) A
  y : RW 35 W (b + 1 + 1 + 1 + 1) M
  z : RW 51 W (b + 1 + 1 + 1 + 1 + 1) G
  f : RF base W f A
  v : Wv w g c n cs cnt a M W
  k : Kept [] w W
theorem Q6.ret {w W : World} {b base g : Nat} {c : Cfg} {n : Nat} {f : Fm} {cs : List Int} {cnt : Int} {a : Acc} {A M G : Array Value} (h : Q6 w W b base g c n f cs cnt a A M G) : E6 w (((W.drew.setRow (b + 1 + 1 + 1) A).setRow (b + 1 + 1 + 1 + 1) M).setRow (b + 1 + 1 + 1 + 1 + 1) G) b base g c n f cs cnt a A M G := by
  have kd := (Kept.refl [] W).drew
  have x0 := h.r.x.kept kd (by simp)
  have y0 := h.r.y.kept kd (by simp)
  have z0 := h.r.z.kept kd (by simp)
  have f0 := h.f.new kd
  have v0 := h.v.new kd
  have k0 := h.r.k.trans kd
  have y1 := y0.rowOther A (c := (b + 1 + 1 + 1)) (by omega)
  have z1 := z0.rowOther A (c := (b + 1 + 1 + 1)) (by omega)
  have z2 := z1.rowOther M (c := (b + 1 + 1 + 1 + 1)) (by omega)
  have f1 := f0.far1 x0 (by decide) (k_row _ _ A)
  have v1 := v0.one x0 (by decide) (k_row _ _ A)
  have f2 := f1.far1 y1 (by decide) (k_row _ _ M)
  have v2 := v1.one y1 (by decide) (k_row _ _ M)
  have o := h.r.old
  exact ⟨((x0.row A).rowOther M (by omega)).rowOther G (by omega), (y1.row M).rowOther G (by omega), z2.row G, f2.far1 z2 (by decide) (k_row _ _ G), v2.one z2 (by decide) (k_row _ _ G), ((k0.setRow (Or.inr (by omega)) A).setRow (Or.inr (by omega)) M).setRow (Or.inr (by omega)) G⟩
set_option maxHeartbeats 4000000 in
theorem wp_ret3 {id d1 d2 d3 x1 x2 x3 y1 y2 y3 : Nat} {p1 p2 p3 p4 p5 p6 : String} {T1 T2 T3 n1 n2 n3 : Nat} {Q : Exit → Act → World → Prop} {a : Act} {w : World} (h1 : IsT T1 n1) (h2 : IsT T2 n2) (h3 : IsT T3 n3)
    (f0 : Region.free .any (ret3 d1 d2 d3 x1 x2 x3 y1 y2 y3 p1 p2 p3 p4 p5 p6 T1 T2 T3) #[false, false, false, false, false, false] 0 = true) (f1 : Region.free .any (ret3 d1 d2 d3 x1 x2 x3 y1 y2 y3 p1 p2 p3 p4 p5 p6 T1 T2 T3) #[true, false, false, false, false, false] 1 = true) (f2 : Region.free .any (ret3 d1 d2 d3 x1 x2 x3 y1 y2 y3 p1 p2 p3 p4 p5 p6 T1 T2 T3) #[true, true, false, false, false, false] 2 = true)
    (hQ : ∀ c a w v (d : Nat), Q (.panic c) (Act.put a (some d) v) w → Q (.panic c) a w)
    (b1 b2 b3 c1 c2 c3 : Nat) (A B G O1 O2 O3 : Array Value) (hA : A.size = n1) (hB : B.size = n2) (hG : G.size = n3) (oA : A.all (·.oneCell') = true) (oB : B.all (·.oneCell') = true) (oG : G.all (·.oneCell') = true) (hO1 : O1.size = n1) (hO2 : O2.size = n2) (hO3 : O3.size = n3)
    (r1 : RW T1 w b1 A) (r2 : RW T2 w b2 B) (r3 : RW T3 w b3 G) (s1 : RW T1 w c1 O1) (s2 : RW T2 w c2 O2) (s3 : RW T3 w c3 O3)
    (e1 : ¬ b1 = c1 ∧ ¬ b1 = c2 ∧ ¬ b1 = c3) (e2 : ¬ b2 = c1 ∧ ¬ b2 = c2 ∧ ¬ b2 = c3) (e3 : ¬ b3 = c1 ∧ ¬ b3 = c2 ∧ ¬ b3 = c3) (e4 : ¬ c1 = c2 ∧ ¬ c1 = c3 ∧ ¬ c2 = c3)
    (hx1 : a.eval (.tmp x1) = .pointer (some ⟨b1, 0, none⟩)) (hx2 : (a.put (some d1) (.agg A)).eval (.tmp x2) = .pointer (some ⟨b2, 0, none⟩)) (hx3 : ((a.put (some d1) (.agg A)).put (some d2) (.agg B)).eval (.tmp x3) = .pointer (some ⟨b3, 0, none⟩))
    (hy1 : (((a.put (some d1) (.agg A)).put (some d2) (.agg B)).put (some d3) (.agg G)).eval (.tmp y1) = .pointer (some ⟨c1, 0, none⟩)) (hv1 : (((a.put (some d1) (.agg A)).put (some d2) (.agg B)).put (some d3) (.agg G)).eval (.tmp d1) = .agg A)
    (hy2 : (((a.put (some d1) (.agg A)).put (some d2) (.agg B)).put (some d3) (.agg G)).eval (.tmp y2) = .pointer (some ⟨c2, 0, none⟩)) (hv2 : (((a.put (some d1) (.agg A)).put (some d2) (.agg B)).put (some d3) (.agg G)).eval (.tmp d2) = .agg B)
    (hy3 : (((a.put (some d1) (.agg A)).put (some d2) (.agg B)).put (some d3) (.agg G)).eval (.tmp y3) = .pointer (some ⟨c3, 0, none⟩)) (hv3 : (((a.put (some d1) (.agg A)).put (some d2) (.agg B)).put (some d3) (.agg G)).eval (.tmp d3) = .agg G)
    (h : Q .normal (((a.put (some d1) (.agg A)).put (some d2) (.agg B)).put (some d3) (.agg G)) (((w.drew.setRow c1 A).setRow c2 B).setRow c3 G)) :
    (Code.region id (ret3 d1 d2 d3 x1 x2 x3 y1 y2 y3 p1 p2 p3 p4 p5 p6 T1 T2 T3) true).wp Tryz.prog Q a w := by
  refine wp_region_held_drew (S := fun w' => RW T1 w' b1 A ∧ RW T2 w' b2 B ∧ RW T3 w' b3 G ∧ (∃ O, RW T1 w' c1 O ∧ O.size = n1) ∧ (∃ O, RW T2 w' c2 O ∧ O.size = n2) ∧ (∃ O, RW T3 w' c3 O ∧ O.size = n3)) (by kernel_rfl) ⟨r1, r2, r3, ⟨O1, s1, hO1⟩, ⟨O2, s2, hO2⟩, ⟨O3, s3, hO3⟩⟩ (fun hS => ?_)
  refine wpAnyH_take (i := 0) (oi := { dst := some d1, op := .load T1 (.tmp x1), type := T1, pos := p1, after := #[], guard := none }) (v := .agg A) rfl (by kernel_rfl) f0 (by kernel_rfl) (fun _ _ _ h => hQ _ _ _ _ _ h) (yieldsIf_load_rw rfl T1 h1 (.tmp x1) rfl b1 hx1 A hA (fun _ h => h.1)) hS ?_
  refine wpAnyH_take (i := 1) (oi := { dst := some d2, op := .load T2 (.tmp x2), type := T2, pos := p2, after := #[{ on := 3, ground := .gcOnly .lateStores }], guard := none }) (v := .agg B) rfl (by kernel_rfl) f1 (by kernel_rfl) (fun _ _ _ h => hQ _ _ _ _ _ h) (yieldsIf_load_rw rfl T2 h2 (.tmp x2) rfl b2 hx2 B hB (fun _ h => h.2.1)) hS ?_
  refine wpAnyH_take (i := 2) (oi := { dst := some d3, op := .load T3 (.tmp x3), type := T3, pos := p3, after := #[{ on := 4, ground := .gcOnly .lateStores }], guard := none }) (v := .agg G) rfl (by kernel_rfl) f2 (by kernel_rfl) (fun _ _ _ h => hQ _ _ _ _ _ h) (yieldsIf_load_rw rfl T3 h3 (.tmp x3) rfl b3 hx3 G hG (fun _ h => h.2.2.1)) hS ?_
  have S1 : RW T1 w.drew c1 O1 := s1
  have S2 : RW T2 w.drew c2 O2 := s2
  have S3 : RW T3 w.drew c3 O3 := s3
  have Q1 : RW T1 w.drew b1 A := r1
  have Q2 : RW T2 w.drew b2 B := r2
  have Q3 : RW T3 w.drew b3 G := r3
  have S2a := S2.rowOther A (c := c1) (fun e => e4.1 e.symm)
  have S3a := S3.rowOther A (c := c1) (fun e => e4.2.1 e.symm)
  have S3b := S3a.rowOther B (c := c2) (fun e => e4.2.2 e.symm)
  refine wpAnyH_ready (rs := [3]) (by kernel_rfl) (by simp) ?_
  refine AllReadyH.cons (o := { dst := none, op := .store T1 (.tmp y1) (.tmp d1), type := 0, pos := p4, after := #[{ on := 0, ground := .data }, { on := 0, ground := .phase }, { on := 1, ground := .textOnly .lateStores }, { on := 2, ground := .textOnly .lateStores }], guard := none }) rfl (fun K hK => ?_) AllReadyH.nil
  rw [if_pos (by rfl)]
  refine wp_store_row T1 (.tmp y1) (.tmp d1) rfl c1 A hy1 hv1 T1 O1 S1 (by rw [h1.1, hA]) (by rw [hO1, hA]) oA ?_
  refine hK.out _ _ ⟨Q1.rowOther A e1.1, Q2.rowOther A e2.1, Q3.rowOther A e3.1, ⟨A, S1.row A, hA⟩, ⟨O2, S2a, hO2⟩, ⟨O3, S3a, hO3⟩⟩ (fun hS2 => ?_)
  refine wpAnyH_ready (rs := [4]) (by kernel_rfl) (by simp) ?_
  refine AllReadyH.cons (o := { dst := none, op := .store T2 (.tmp y2) (.tmp d2), type := 0, pos := p5, after := #[{ on := 1, ground := .data }, { on := 3, ground := .chain }, { on := 0, ground := .phase }, { on := 1, ground := .phase }, { on := 2, ground := .textOnly .lateStores }, { on := 3, ground := .phase }], guard := none }) rfl (fun K2 hK2 => ?_) AllReadyH.nil
  rw [if_pos (by rfl)]
  refine wp_store_row T2 (.tmp y2) (.tmp d2) rfl c2 B hy2 hv2 T2 O2 S2a (by rw [h2.1, hB]) (by rw [hO2, hB]) oB ?_
  refine hK2.out _ _ ⟨(Q1.rowOther A e1.1).rowOther B e1.2.1, (Q2.rowOther A e2.1).rowOther B e2.2.1, (Q3.rowOther A e3.1).rowOther B e3.2.1, ⟨A, (S1.row A).rowOther B e4.1, hA⟩, ⟨B, S2a.row B, hB⟩, ⟨O3, S3b, hO3⟩⟩ (fun hS3 => ?_)
  refine wpAnyH_ready (rs := [5]) (by kernel_rfl) (by simp) ?_
  refine AllReadyH.cons (o := { dst := none, op := .store T3 (.tmp y3) (.tmp d3), type := 0, pos := p6, after := #[{ on := 2, ground := .data }, { on := 4, ground := .chain }, { on := 0, ground := .phase }, { on := 1, ground := .phase }, { on := 2, ground := .phase }, { on := 3, ground := .phase }, { on := 4, ground := .phase }], guard := none }) rfl (fun K3 hK3 => ?_) AllReadyH.nil
  rw [if_pos (by rfl)]
  refine wp_store_row T3 (.tmp y3) (.tmp d3) rfl c3 G hy3 hv3 T3 O3 S3b (by rw [h3.1, hG]) (by rw [hO3, hG]) oG ?_
  refine hK3.out _ _ ⟨((Q1.rowOther A e1.1).rowOther B e1.2.1).rowOther G e1.2.2, ((Q2.rowOther A e2.1).rowOther B e2.2.1).rowOther G e2.2.2, ((Q3.rowOther A e3.1).rowOther B e3.2.1).rowOther G e3.2.2, ⟨A, ((S1.row A).rowOther B e4.1).rowOther G e4.2.1, hA⟩, ⟨B, (S2a.row B).rowOther G e4.2.2, hB⟩, ⟨G, S3b.row G, hG⟩⟩ (fun _ => ?_)
  exact wpAnyH_done (by kernel_rfl) h _
theorem results_rw3 {fn : Func} {p q s : Tmp} {T1 T2 T3 n1 n2 n3 : Nat} (h : fn.results = #[.cell p T1, .cell q T2, .cell s T3]) (h1 : IsT T1 n1) (h2 : IsT T2 n2) (h3 : IsT T3 n3) (tmps : Array Value) (w : World) (c1 c2 c3 : Nat) (A B G : Array Value) (hA : A.size = n1) (hB : B.size = n2) (hG : G.size = n3)
    (hp : tmps.getD p undef = .pointer (some ⟨c1, 0, none⟩)) (hq : tmps.getD q undef = .pointer (some ⟨c2, 0, none⟩)) (hs : tmps.getD s undef = .pointer (some ⟨c3, 0, none⟩)) (r1 : RW T1 w c1 A) (r2 : RW T2 w c2 B) (r3 : RW T3 w c3 G) :
    (results fn tmps).run Tryz.prog w = .ok (.tuple #[.agg A, .agg B, .agg G]) w := by
  obtain ⟨f1, u1⟩ := h1.2
  obtain ⟨f2, u2⟩ := h2.2
  obtain ⟨f3, u3⟩ := h3.2
  have hp' : tmps[p]?.getD undef = .pointer (some ⟨c1, 0, none⟩) := by simpa using hp
  have hq' : tmps[q]?.getD undef = .pointer (some ⟨c2, 0, none⟩) := by simpa using hq
  have hs' : tmps[s]?.getD undef = .pointer (some ⟨c3, 0, none⟩) := by simpa using hs
  simp [results, h, hp', hq', hs', asAddr, run_loadVar_row w c1 T1 T1 A (0, 0) _ r1 u1 rfl (by rw [h1.1, hA]), run_loadVar_row w c2 T2 T2 B (0, 0) _ r2 u2 rfl (by rw [h2.1, hB]), run_loadVar_row w c3 T3 T3 G (0, 0) _ r3 u3 rfl (by rw [h3.1, hG])]
theorem rcheckW (s : Gs) (c : Cfg) (g : Nat) (cs : List Int) (cap : Nat) (cnt : Int) (a : Acc) (w : World) (hR : RowR w g cs cap) (hl : cs.length ≤ 17592186044415) (c0 : 0 ≤ cnt) (c1 : cnt < 4611686018427387904) :
    Calls Tryz.prog 65 #[.agg (rgA s), .agg (rmA c (some ⟨g, 0, none⟩) cs.length cap cnt a)] w fun e w' => ∃ B, e = .returned (.tuple #[.agg B, .int .u64 (rdG cs 0), .bool (rdG cs 0 == s.l)]) ∧ Wv w g c cs.length cs (cnt + 1) (acV cs 1 0 0 0 0) B w' ∧ Kept [] w w' := by
  refine (rcheck_any s c g cs cap cnt a w hR hl c0 c1).mono ?_
  rintro e w' ⟨g', c', rfl, h1, h2, k⟩
  rw [ld_o]
  exact ⟨_, rfl, ⟨g', c', rfl, h1, h2⟩, k⟩
theorem rpublishW (s : Gs) (c : Cfg) (g : Nat) (cs : List Int) (cap : Nat) (cnt : Int) (a : Acc) (e : Int) (w : World) (hR : RowR w g cs cap) (hl : cs.length ≤ 17592186044415) (u0 : 0 ≤ s.u) (u1 : s.u < 1000) (c0 : 0 ≤ cnt) (c1 : cnt < 4611686018427387904) :
    Calls Tryz.prog 66 #[.agg (rgA s), .agg (rmA c (some ⟨g, 0, none⟩) cs.length cap cnt a), .int .u64 e] w fun ee w' => ∃ B, ee = .returned (.tuple #[.agg (rgA (pubG c s e)), .agg B, .bool (decide (s.u < c.s))]) ∧ Wv w g c cs.length (clV cs 2 (rsV c s.t (pubN c s)) 0 e) (cnt + 1) (acV cs 2 (rsV c s.t (pubN c s)) 0 0 e) B w' ∧ Kept [] w w' := by
  refine (rpublish_any s c g cs cap cnt a e w hR hl u0 u1 c0 c1).mono ?_
  rintro e w' ⟨g', c', rfl, h1, h2, k⟩
  exact ⟨_, rfl, ⟨g', c', rfl, h1, h2⟩, k⟩
end K
end Go.Proofs.YtgafmklfpiipcaaGreatDoor
namespace Go.Proofs.YtgafmklfpiipcaaGreatDoor
open Go.RowKit (Grown Hid Below)
open Go.Deep
namespace K
set_option maxRecDepth 100000
theorem Q6.far {w W : World} {b base g : Nat} {c : Cfg} {n : Nat} {f : Fm} {cs : List Int} {cnt : Int} {a : Acc} {A M G : Array Value} (h : Q6 w W b base g c n f cs cnt a A M G) {T : TypeId} {d : Nat} {Z : Array Value} (D : RW T W d Z) (hT : 25 ≠ T) (hd : b + 1 + 1 + 1 + 1 + 1 < d) (B : Array Value) : Q6 w (W.setRow d B) b base g c n f cs cnt a A M G :=
  ⟨⟨h.r.f.rowOther B (by omega), h.r.m.rowOther B (by omega), h.r.g.rowOther B (by omega), h.r.x.rowOther B (by omega), h.r.y.rowOther B (by omega), h.r.z.rowOther B (by omega), h.r.k.setRow (Or.inr (by have := h.r.old; omega)) B, h.r.old⟩, h.f.far1 D hT (k_row W d B), h.v.one D hT (k_row W d B)⟩
/-- The document's find, its words and its guard, ahead of a step. -/
structure SQ (base : Nat) (w : World) (g : Nat) (c : Cfg) (f : Fm) (A : Array Value) (gs : Gs) (cs : List Int) (cap : Nat) (cnt : Int) : Prop where
  rf : RF base w f A
  row : RowR w g cs cap
  hl : cs.length ≤ 17592186044415
  c0 : 0 ≤ cnt
  c1 : cnt < 4611686018427387904
  R : Rt c
  fi : FI c f
  wd : Wds cs
  hb : base ≤ w.heap.size
  u0 : 0 ≤ gs.u
  u1 : gs.u ≤ c.s
set_option maxHeartbeats 8000000 in
theorem rfsd_any {base g : Nat} {c : Cfg} {f : Fm} {A : Array Value} {gs : Gs} {cs : List Int} {cap : Nat} {cnt : Int} {w : World} (a : Acc) (S : SQ base w g c f A gs cs cap cnt) (hd : f.d = true) :
    Calls Tryz.prog 34 #[.agg A, .agg (rmA c (some ⟨g, 0, none⟩) cs.length cap cnt a), .agg (rgA gs)] w fun e w' => ∃ X B, e = .returned (.tuple #[.agg X, .agg B, .agg (rgA gs)]) ∧ RF base w' f X ∧ Wv w g c cs.length cs cnt a B w' ∧ Kept [] w w' := by
  obtain ⟨hRF, hR, hl, c0, c1, R, fi, wd, hb, u0, u1⟩ := S
  obtain ⟨n, hn⟩ : ∃ n, n = cs.length := ⟨_, rfl⟩
  obtain ⟨M, hM⟩ : ∃ M, M = rmA c (some ⟨g, 0, none⟩) cs.length cap cnt a := ⟨_, rfl⟩
  have hMv : Wv w g c cs.length cs cnt a M w := ⟨g, cap, hM, Or.inl rfl, hR⟩
  rw [← hM]
  rw [← hn] at hMv ⊢
  have k11 := hRF.cells.2.2.2.2.2.2.2.2
  rw [hd] at k11
  obtain ⟨b, hbw⟩ : ∃ b, b = w.heap.size := ⟨_, rfl⟩
  have ST := hidOf (show Q6 w _ b base g c n f cs cnt a A M (rgA gs) from ⟨R6.start w A M (rgA gs) hbw, hRF.new (R6.start w A M (rgA gs) hbw).k, hMv.new (R6.start w A M (rgA gs) hbw).k⟩)
  clear hRF hR hl hM hn R fi wd hMv
  go_enter Tryz.func34, Tryz.ntmps34
  go_upto_region 1 with (fail)
  rw [← hbw]
  refine gen_world (fun W => Q6 w W b base g c n f cs cnt a A M (rgA gs)) ST.out ?_
  have hbb : w.heap.size ≤ b := by omega
  clear ST hbw
  rintro W Q0
  have p11 := cell_of_blk Q0.r.f (i := 11) k11
  go_upto_region 2 with (fail)
  refine wp_ret3 isT_rf isT_rm isT_rg (by kernel_rfl) (by kernel_rfl) (by kernel_rfl) (fun _ _ _ _ _ h => h) b (b + 1) (b + 1 + 1) (b + 1 + 1 + 1) (b + 1 + 1 + 1 + 1) (b + 1 + 1 + 1 + 1 + 1) A M (rgA gs) rfZ rmZ rgZ Q0.f.size Q0.v.size rfl Q0.f.one Q0.v.allOne (rg_one _) rfl rfl rfl Q0.r.f Q0.r.m Q0.r.g Q0.r.x Q0.r.y Q0.r.z (by omega) (by omega) (by omega) (by omega) rfl rfl rfl rfl rfl rfl rfl rfl rfl ?_
  simp only [Act.put, List.setIfInBounds_toArray, List.set_cons_zero, List.set_cons_succ]
  have EE := Q0.ret
  have sx := Q0.f.size
  have sm := Q0.v.size
  go_wp2
  refine bodyPost_ret (v := .tuple #[.agg A, .agg M, .agg (rgA gs)]) (results_rw3 Tryz.results34 isT_rf isT_rm isT_rg _ _ (b + 1 + 1 + 1) (b + 1 + 1 + 1 + 1) (b + 1 + 1 + 1 + 1 + 1) A M (rgA gs) sx sm rfl rfl rfl rfl EE.x EE.y EE.z) rfl ⟨_, _, rfl, EE.f, EE.v, EE.k⟩
set_option maxHeartbeats 8000000 in
theorem rfs0_any {base g : Nat} {c : Cfg} {f : Fm} {A : Array Value} {gs : Gs} {cs : List Int} {cap : Nat} {cnt : Int} {w : World} (a : Acc) (S : SQ base w g c f A gs cs cap cnt) (hd : f.d = false) (hnx : f.nx = 0) :
    Calls Tryz.prog 34 #[.agg A, .agg (rmA c (some ⟨g, 0, none⟩) cs.length cap cnt a), .agg (rgA gs)] w fun e w' => ∃ X B, e = .returned (.tuple #[.agg X, .agg B, .agg (rgA gs)]) ∧ RF base w' (if mkB (rdW c cs f) = true then f.anew (atF c cnt f) else if vlB (rdW c cs f) = false then f.ended c (atF c cnt f) 0 0 else { f with x := rdW c cs f, nx := 1, at_ := atF c cnt f }) X ∧ Wv w g c cs.length cs (cnt + 1) (acV cs 1 (clV' c (ixV f.pr) (6 + lv c f)) (plainV f.pr) 0 0) B w' ∧ Kept [] w w' := by
  obtain ⟨hRF, hR, hl, c0, c1, R, fi, wd, hb, u0, u1⟩ := S
  have hdn := fi.lt hd
  have hHN := HN_eq R
  have R1 := R.h1
  have Rs := R.s1
  have hlv : lv c f = c.h - 1 - (f.dn : Int) := rfl
  have HC := hidOf (fun (W : World) (k : Kept [] w W) => rfread_any c f A base g cs cap cnt a W (hRF.new k) (hR.kept k (by simp)) hl c0 c1 R fi.pr wd hdn (by have := k.size; omega) ⟨by rw [fi.ps]; omega, by rw [fi.ss]; omega, by rw [fi.ks]; omega⟩)
  generalize (if mkB (rdW c cs f) = true then f.anew (atF c cnt f) else if vlB (rdW c cs f) = false then f.ended c (atF c cnt f) 0 0 else { f with x := rdW c cs f, nx := 1, at_ := atF c cnt f }) = Qf at HC ⊢
  generalize acV cs 1 (clV' c (ixV f.pr) (6 + lv c f)) (plainV f.pr) 0 0 = AC at HC ⊢
  skip
  obtain ⟨n, hn⟩ : ∃ n, n = cs.length := ⟨_, rfl⟩
  obtain ⟨M, hM⟩ : ∃ M, M = rmA c (some ⟨g, 0, none⟩) cs.length cap cnt a := ⟨_, rfl⟩
  have hM15 : M.size = 15 := by rw [hM]; rfl
  have hM3 : M[3]? = some (.int .i64 c.h) := by rw [hM]; rfl
  have hMv : Wv w g c cs.length cs cnt a M w := ⟨g, cap, hM, Or.inl rfl, hR⟩
  rw [← hM] at HC ⊢
  rw [← hn] at HC hMv ⊢
  have s12 := hRF.size
  obtain ⟨k0, k1, k2, k3, k4, k5, k6, k10, k11⟩ := hRF.cells
  rw [hd] at k11
  have k1' : A[1]? = some (.int .i64 0) := by rw [k1, hnx]; rfl
  have d0 : (0 : Int) ≤ f.dn := by omega
  have d1 : (f.dn : Int) + 1 ≤ c.h := by omega
  obtain ⟨b, hbw⟩ : ∃ b, b = w.heap.size := ⟨_, rfl⟩
  have ST := hidOf (show Q6 w _ b base g c n f cs cnt a A M (rgA gs) from ⟨R6.start w A M (rgA gs) hbw, hRF.new (R6.start w A M (rgA gs) hbw).k, hMv.new (R6.start w A M (rgA gs) hbw).k⟩)
  clear hRF hR hl hM hn R fi wd hMv hdn hHN k1
  go_enter Tryz.func34, Tryz.ntmps34
  go_upto_region 1 with (fail)
  rw [← hbw]
  refine gen_world (fun W => Q6 w W b base g c n f cs cnt a A M (rgA gs)) ST.out ?_
  have hbb : w.heap.size ≤ b := by omega
  clear ST hbw
  rintro W Q0
  have p11 := cell_of_blk Q0.r.f (i := 11) k11
  have p2 := cell_of_blk Q0.r.f (i := 2) k2
  have p1 := cell_of_blk Q0.r.f (i := 1) k1'
  have m3 := cell_of_blk Q0.r.m (i := 3) hM3
  have HQ := hidOf Q0
  clear Q0
  go_upto_region 6 with (fail)
  have QF := HQ.out.r.f
  have QM := HQ.out.r.m
  have QG := HQ.out.r.g
  go_wp2_with (first
      | ((with_reducible change wpList _ _ _ (Oper.mk _ (Op.load 44 (Operand.tmp 3)) _ _ _ _ :: _) _ _); refine wpList_load_rw 44 isT_rf rfl (.tmp 3) rfl b rfl A s12 QF ?_)
      | ((with_reducible change wpList _ _ _ (Oper.mk _ (Op.load 35 (Operand.tmp 4)) _ _ _ _ :: _) _ _); refine wpList_load_rw 35 isT_rm rfl (.tmp 4) rfl (b + 1) rfl M hM15 QM ?_))
  refine (HC.out _ HQ.out.r.k).mono ?_
  rintro e w1 ⟨X, B, rfl, RX, WV', K1⟩
  have WV := WV'.old (w := w) HQ.out.r.k.size
  have Q1 := HQ.out.new K1
  have sX := RX.size
  have oX := RX.one
  have sB := WV.size
  have oB := WV.allOne
  have F1 := Q1.r.f
  have M1 := Q1.r.m.rowOther X (c := b) (by omega)
  have HQ1 := hidOf (Q6.ofM (Q1.setF RX).r (Q1.setF RX).f (WV.one Q1.r.f (by decide) (k_row w1 b X)))
  clear QF QM QG HQ HC Q1 WV WV' RX K1 p11 p2 p1 m3
  go_upto_region 41 with (first
      | ((with_reducible change wpList _ _ _ (Oper.mk _ (Op.store 44 (Operand.tmp 3) _) _ _ _ _ :: _) _ _); refine wpList_store_rw 44 isT_rf rfl (.tmp 3) (.tmp 42) rfl b X rfl rfl sX oX A F1 s12 ?_)
      | ((with_reducible change wpList _ _ _ (Oper.mk _ (Op.store 35 (Operand.tmp 4) _) _ _ _ _ :: _) _ _); refine wpList_store_rw 35 isT_rm rfl (.tmp 4) (.tmp 43) rfl (b + 1) B rfl rfl sB oB M M1 hM15 ?_))
  refine gen_world (fun V => Q6 w V b base g c n Qf cs (cnt + 1) AC X B (rgA gs)) HQ1.out ?_
  clear HQ1 F1 M1
  rintro W2 Q2
  go_upto_region 41 with (fail)
  refine wp_ret3 isT_rf isT_rm isT_rg (by kernel_rfl) (by kernel_rfl) (by kernel_rfl) (fun _ _ _ _ _ h => h) b (b + 1) (b + 1 + 1) (b + 1 + 1 + 1) (b + 1 + 1 + 1 + 1) (b + 1 + 1 + 1 + 1 + 1) X B (rgA gs) rfZ rmZ rgZ Q2.f.size Q2.v.size rfl Q2.f.one Q2.v.allOne (rg_one _) rfl rfl rfl Q2.r.f Q2.r.m Q2.r.g Q2.r.x Q2.r.y Q2.r.z (by omega) (by omega) (by omega) (by omega) rfl rfl rfl rfl rfl rfl rfl rfl rfl ?_
  simp only [Act.put, List.setIfInBounds_toArray, List.set_cons_zero, List.set_cons_succ]
  have EE := Q2.ret
  have sx := Q2.f.size
  have sm := Q2.v.size
  go_wp2
  refine bodyPost_ret (v := .tuple #[.agg X, .agg B, .agg (rgA gs)]) (results_rw3 Tryz.results34 isT_rf isT_rm isT_rg _ _ (b + 1 + 1 + 1) (b + 1 + 1 + 1 + 1) (b + 1 + 1 + 1 + 1 + 1) X B (rgA gs) sx sm rfl rfl rfl rfl EE.x EE.y EE.z) rfl ⟨_, _, rfl, EE.f, EE.v, EE.k⟩
set_option maxHeartbeats 8000000 in
theorem rfs1_any {base g : Nat} {c : Cfg} {f : Fm} {A : Array Value} {gs : Gs} {cs : List Int} {cap : Nat} {cnt : Int} {w : World} (a : Acc) (S : SQ base w g c f A gs cs cap cnt) (hd : f.d = false) (hnx : f.nx = 1) :
    Calls Tryz.prog 34 #[.agg A, .agg (rmA c (some ⟨g, 0, none⟩) cs.length cap cnt a), .agg (rgA gs)] w fun e w' => ∃ X B, e = .returned (.tuple #[.agg X, .agg B, .agg (rgA gs)]) ∧ RF base w' { f with era := rdG cs 0, nx := if rdG cs 0 = gs.l then 3 else 2 } X ∧ Wv w g c cs.length cs (cnt + 1) (acV cs 1 0 0 0 0) B w' ∧ Kept [] w w' := by
  obtain ⟨hRF, hR, hl, c0, c1, R, fi, wd, hb, u0, u1⟩ := S
  have hdn := fi.lt hd
  have hHN := HN_eq R
  have R1 := R.h1
  have Rs := R.s1
  have hlv : lv c f = c.h - 1 - (f.dn : Int) := rfl
  have HC := hidOf (fun (W : World) (k : Kept [] w W) => rcheckW gs c g cs cap cnt a W (hR.kept k (by simp)) hl c0 c1)
  generalize acV cs 1 0 0 0 0 = AC at HC ⊢
  generalize rdG cs 0 = E at HC ⊢
  obtain ⟨Qf, hQf⟩ : ∃ Qf : Fm, Qf = { f with era := E, nx := if E = gs.l then 3 else 2 } := ⟨_, rfl⟩
  rw [← hQf]
  have HQf := hidOf hQf
  clear hQf
  obtain ⟨n, hn⟩ : ∃ n, n = cs.length := ⟨_, rfl⟩
  obtain ⟨M, hM⟩ : ∃ M, M = rmA c (some ⟨g, 0, none⟩) cs.length cap cnt a := ⟨_, rfl⟩
  have hM15 : M.size = 15 := by rw [hM]; rfl
  have hM3 : M[3]? = some (.int .i64 c.h) := by rw [hM]; rfl
  have hMv : Wv w g c cs.length cs cnt a M w := ⟨g, cap, hM, Or.inl rfl, hR⟩
  rw [← hM] at HC ⊢
  rw [← hn] at HC hMv ⊢
  have s12 := hRF.size
  obtain ⟨k0, k1, k2, k3, k4, k5, k6, k10, k11⟩ := hRF.cells
  rw [hd] at k11
  have k1' : A[1]? = some (.int .i64 1) := by rw [k1, hnx]; rfl
  have d0 : (0 : Int) ≤ f.dn := by omega
  have d1 : (f.dn : Int) + 1 ≤ c.h := by omega
  obtain ⟨b, hbw⟩ : ∃ b, b = w.heap.size := ⟨_, rfl⟩
  have ST := hidOf (show Q6 w _ b base g c n f cs cnt a A M (rgA gs) from ⟨R6.start w A M (rgA gs) hbw, hRF.new (R6.start w A M (rgA gs) hbw).k, hMv.new (R6.start w A M (rgA gs) hbw).k⟩)
  clear hRF hR hl hM hn R fi wd hMv hdn hHN k1
  go_enter Tryz.func34, Tryz.ntmps34
  go_upto_region 1 with (fail)
  rw [← hbw]
  refine gen_world (fun W => Q6 w W b base g c n f cs cnt a A M (rgA gs)) ST.out ?_
  have hbb : w.heap.size ≤ b := by omega
  clear ST hbw
  rintro W Q0
  have p11 := cell_of_blk Q0.r.f (i := 11) k11
  have p2 := cell_of_blk Q0.r.f (i := 2) k2
  have p1 := cell_of_blk Q0.r.f (i := 1) k1'
  have m3 := cell_of_blk Q0.r.m (i := 3) hM3
  have HQ := hidOf Q0
  clear Q0
  go_upto_region 8 with (fail)
  have QF := HQ.out.r.f
  have QM := HQ.out.r.m
  have QG := HQ.out.r.g
  go_wp2_with (first
      | ((with_reducible change wpList _ _ _ (Oper.mk _ (Op.load 51 (Operand.tmp 5)) _ _ _ _ :: _) _ _); refine wpList_load_rw 51 isT_rg rfl (.tmp 5) rfl (b + 1 + 1) rfl (rgA gs) rfl QG ?_)
      | ((with_reducible change wpList _ _ _ (Oper.mk _ (Op.load 35 (Operand.tmp 4)) _ _ _ _ :: _) _ _); refine wpList_load_rw 35 isT_rm rfl (.tmp 4) rfl (b + 1) rfl M hM15 QM ?_))
  refine (HC.out _ HQ.out.r.k).mono ?_
  rintro e w1 ⟨B, rfl, WV', K1⟩
  have WV := WV'.old (w := w) HQ.out.r.k.size
  clear HC WV'
  have Q1 := HQ.out.new K1
  have sB := WV.size
  have oB := WV.allOne
  have HQ1 := hidOf Q1
  have HW1 := hidOf WV
  have szd := Q1.r.z.lt
  obtain ⟨d, hdw⟩ : ∃ d, d = w1.heap.size := ⟨_, rfl⟩
  clear QF QM QG HQ Q1 WV p11 p2 p1 m3
  go_upto_region 9 with (first
      | ((with_reducible change wpList _ _ _ (Oper.mk _ (Op.store 35 (Operand.tmp 10) _) _ _ _ _ :: _) _ _); refine wpList_store_rw 35 isT_rm rfl (.tmp 10) (.tmp 50) rfl w1.heap.size B rfl rfl sB oB rmZ (RW.new 35 w1 rmZ) rfl ?_))
  rw [← hdw]
  refine gen_world (fun V => RW 35 V d B ∧ Kept [] w1 V) ?_ ?_
  · rw [hdw]; exact ⟨(RW.new 35 w1 rmZ).row _, ((Kept.refl [] w1).alloc _).setRow (Or.inr (Nat.le_refl _)) _⟩
  have hd1 : w1.heap.size ≤ d := by omega
  clear hdw K1
  rintro V ⟨D0, KV⟩
  have Q2 := HQ1.out.new KV
  have W2 := HW1.out.new KV
  have QM := Q2.r.m
  have HQ2 := hidOf Q2
  have HW2 := hidOf W2
  clear Q2 W2 HQ1 HW1 KV
  go_upto_region 10 with (first
      | ((with_reducible change wpList _ _ _ (Oper.mk _ (Op.load 35 (Operand.tmp 10)) _ _ _ _ :: _) _ _); refine wpList_load_rw 35 isT_rm rfl (.tmp 10) rfl d rfl B sB D0 ?_)
      | ((with_reducible change wpList _ _ _ (Oper.mk _ (Op.store 35 (Operand.tmp 4) _) _ _ _ _ :: _) _ _); refine wpList_store_rw 35 isT_rm rfl (.tmp 4) (.tmp 53) rfl (b + 1) B rfl rfl sB oB M QM hM15 ?_))
  refine gen_world (fun V => Q6 w V b base g c n f cs (cnt + 1) AC A B (rgA gs)) (Q6.ofM HQ2.out.r HQ2.out.f HW2.out) ?_
  clear HQ2 HW2 D0 QM
  rintro W2 Q3
  have p1 := cell_of_blk Q3.r.f (i := 1) k1'
  have p6 := cell_of_blk Q3.r.f (i := 6) k6
  have hf := free_of_blk Q3.r.f
  by_cases hE : E = gs.l
  · have hEb : (E == gs.l) = true := by simp [hE]
    have HQ4 := hidOf (((Q3.era E).nx 2).nx 3)
    have HE := hidOf hE
    clear Q3 hE
    go_upto_region 41 with (fail)
    refine gen_world (fun V => Q6 w V b base g c n { f with era := E, nx := 3 } cs (cnt + 1) AC _ B (rgA gs)) HQ4.out ?_
    clear HQ4 p1 p6 hf
    rintro W4 Q4
    generalize ((A.setIfInBounds 6 (.int .u64 E)).setIfInBounds 1 (.int .i64 ((2 : Nat) : Int))).setIfInBounds 1 (.int .i64 ((3 : Nat) : Int)) = X at Q4 ⊢
    go_upto_region 41 with (fail)
    refine wp_ret3 isT_rf isT_rm isT_rg (by kernel_rfl) (by kernel_rfl) (by kernel_rfl) (fun _ _ _ _ _ h => h) b (b + 1) (b + 1 + 1) (b + 1 + 1 + 1) (b + 1 + 1 + 1 + 1) (b + 1 + 1 + 1 + 1 + 1) X B (rgA gs) rfZ rmZ rgZ Q4.f.size Q4.v.size rfl Q4.f.one Q4.v.allOne (rg_one _) rfl rfl rfl Q4.r.f Q4.r.m Q4.r.g Q4.r.x Q4.r.y Q4.r.z (by omega) (by omega) (by omega) (by omega) rfl rfl rfl rfl rfl rfl rfl rfl rfl ?_
    simp only [Act.put, List.setIfInBounds_toArray, List.set_cons_zero, List.set_cons_succ]
    have EE := Q4.ret
    have sx := Q4.f.size
    have sm := Q4.v.size
    go_wp2
    refine bodyPost_ret (v := .tuple #[.agg X, .agg B, .agg (rgA gs)]) (results_rw3 Tryz.results34 isT_rf isT_rm isT_rg _ _ (b + 1 + 1 + 1) (b + 1 + 1 + 1 + 1) (b + 1 + 1 + 1 + 1 + 1) X B (rgA gs) sx sm rfl rfl rfl rfl EE.x EE.y EE.z) rfl ⟨_, _, rfl, (by rw [HQf.out, if_pos HE.out]; exact EE.f), EE.v, EE.k⟩
  · have hEb : (E == gs.l) = false := by simp [hE]
    have HQ4 := hidOf ((Q3.era E).nx 2)
    have HE := hidOf hE
    clear Q3 hE
    go_upto_region 41 with (fail)
    refine gen_world (fun V => Q6 w V b base g c n { f with era := E, nx := 2 } cs (cnt + 1) AC _ B (rgA gs)) HQ4.out ?_
    clear HQ4 p1 p6 hf
    rintro W4 Q4
    generalize (A.setIfInBounds 6 (.int .u64 E)).setIfInBounds 1 (.int .i64 ((2 : Nat) : Int)) = X at Q4 ⊢
    go_upto_region 41 with (fail)
    refine wp_ret3 isT_rf isT_rm isT_rg (by kernel_rfl) (by kernel_rfl) (by kernel_rfl) (fun _ _ _ _ _ h => h) b (b + 1) (b + 1 + 1) (b + 1 + 1 + 1) (b + 1 + 1 + 1 + 1) (b + 1 + 1 + 1 + 1 + 1) X B (rgA gs) rfZ rmZ rgZ Q4.f.size Q4.v.size rfl Q4.f.one Q4.v.allOne (rg_one _) rfl rfl rfl Q4.r.f Q4.r.m Q4.r.g Q4.r.x Q4.r.y Q4.r.z (by omega) (by omega) (by omega) (by omega) rfl rfl rfl rfl rfl rfl rfl rfl rfl ?_
    simp only [Act.put, List.setIfInBounds_toArray, List.set_cons_zero, List.set_cons_succ]
    have EE := Q4.ret
    have sx := Q4.f.size
    have sm := Q4.v.size
    go_wp2
    refine bodyPost_ret (v := .tuple #[.agg X, .agg B, .agg (rgA gs)]) (results_rw3 Tryz.results34 isT_rf isT_rm isT_rg _ _ (b + 1 + 1 + 1) (b + 1 + 1 + 1 + 1) (b + 1 + 1 + 1 + 1 + 1) X B (rgA gs) sx sm rfl rfl rfl rfl EE.x EE.y EE.z) rfl ⟨_, _, rfl, (by rw [HQf.out, if_neg HE.out]; exact EE.f), EE.v, EE.k⟩
set_option maxHeartbeats 8000000 in
theorem rfs2_any {base g : Nat} {c : Cfg} {f : Fm} {A : Array Value} {gs : Gs} {cs : List Int} {cap : Nat} {cnt : Int} {w : World} (a : Acc) (S : SQ base w g c f A gs cs cap cnt) (hd : f.d = false) (hnx : f.nx = 2) :
    Calls Tryz.prog 34 #[.agg A, .agg (rmA c (some ⟨g, 0, none⟩) cs.length cap cnt a), .agg (rgA gs)] w fun e w' => ∃ X B, e = .returned (.tuple #[.agg X, .agg B, .agg (rgA (pubG c gs f.era))]) ∧ RF base w' (if gs.u < c.s then { f with nx := 0 } else f.anew f.at_) X ∧ Wv w g c cs.length (clV cs 2 (rsV c gs.t (pubN c gs)) 0 f.era) (cnt + 1) (acV cs 2 (rsV c gs.t (pubN c gs)) 0 0 f.era) B w' ∧ Kept [] w w' := by
  obtain ⟨hRF, hR, hl, c0, c1, R, fi, wd, hb, u0, u1⟩ := S
  have hdn := fi.lt hd
  have hHN := HN_eq R
  have R1 := R.h1
  have Rs := R.s1
  have hlv : lv c f = c.h - 1 - (f.dn : Int) := rfl
  have HC := hidOf (fun (W : World) (k : Kept [] w W) => rpublishW gs c g cs cap cnt a f.era W (hR.kept k (by simp)) hl u0 (by omega) c0 c1)
  generalize acV cs 2 (rsV c gs.t (pubN c gs)) 0 0 f.era = AC at HC ⊢
  generalize clV cs 2 (rsV c gs.t (pubN c gs)) 0 f.era = CC at HC ⊢
  generalize pubG c gs f.era = G2 at HC ⊢
  obtain ⟨st, hst⟩ : ∃ st, st = decide (gs.u < c.s) := ⟨_, rfl⟩
  rw [← hst] at HC
  have HST := hidOf hst
  clear hst
  obtain ⟨Qf, hQf⟩ : ∃ Qf : Fm, Qf = if gs.u < c.s then { f with nx := 0 } else f.anew f.at_ := ⟨_, rfl⟩
  rw [← hQf]
  have HQf := hidOf hQf
  clear hQf
  obtain ⟨n, hn⟩ : ∃ n, n = cs.length := ⟨_, rfl⟩
  obtain ⟨M, hM⟩ : ∃ M, M = rmA c (some ⟨g, 0, none⟩) cs.length cap cnt a := ⟨_, rfl⟩
  have hM15 : M.size = 15 := by rw [hM]; rfl
  have hM3 : M[3]? = some (.int .i64 c.h) := by rw [hM]; rfl
  have hMv : Wv w g c cs.length cs cnt a M w := ⟨g, cap, hM, Or.inl rfl, hR⟩
  rw [← hM] at HC ⊢
  rw [← hn] at HC hMv ⊢
  have s12 := hRF.size
  obtain ⟨k0, k1, k2, k3, k4, k5, k6, k10, k11⟩ := hRF.cells
  rw [hd] at k11
  have k1' : A[1]? = some (.int .i64 2) := by rw [k1, hnx]; rfl
  have d0 : (0 : Int) ≤ f.dn := by omega
  have d1 : (f.dn : Int) + 1 ≤ c.h := by omega
  obtain ⟨b, hbw⟩ : ∃ b, b = w.heap.size := ⟨_, rfl⟩
  have ST := hidOf (show Q6 w _ b base g c n f cs cnt a A M (rgA gs) from ⟨R6.start w A M (rgA gs) hbw, hRF.new (R6.start w A M (rgA gs) hbw).k, hMv.new (R6.start w A M (rgA gs) hbw).k⟩)
  clear hRF hR hl hM hn R fi wd hMv hdn hHN k1
  go_enter Tryz.func34, Tryz.ntmps34
  go_upto_region 1 with (fail)
  rw [← hbw]
  refine gen_world (fun W => Q6 w W b base g c n f cs cnt a A M (rgA gs)) ST.out ?_
  have hbb : w.heap.size ≤ b := by omega
  clear ST hbw
  rintro W Q0
  have p11 := cell_of_blk Q0.r.f (i := 11) k11
  have p2 := cell_of_blk Q0.r.f (i := 2) k2
  have p1 := cell_of_blk Q0.r.f (i := 1) k1'
  have m3 := cell_of_blk Q0.r.m (i := 3) hM3
  have HQ := hidOf Q0
  clear Q0
  go_upto_region 15 with (fail)
  have QF := HQ.out.r.f
  have QM := HQ.out.r.m
  have QG := HQ.out.r.g
  have p6 := cell_of_blk QF (i := 6) k6
  go_wp2_with (first
      | ((with_reducible change wpList _ _ _ (Oper.mk _ (Op.load 51 (Operand.tmp 5)) _ _ _ _ :: _) _ _); refine wpList_load_rw 51 isT_rg rfl (.tmp 5) rfl (b + 1 + 1) rfl (rgA gs) rfl QG ?_)
      | ((with_reducible change wpList _ _ _ (Oper.mk _ (Op.load 35 (Operand.tmp 4)) _ _ _ _ :: _) _ _); refine wpList_load_rw 35 isT_rm rfl (.tmp 4) rfl (b + 1) rfl M hM15 QM ?_))
  refine (HC.out _ HQ.out.r.k).mono ?_
  rintro e w1 ⟨B, rfl, WV', K1⟩
  have WV := WV'.old (w := w) HQ.out.r.k.size
  have Q1 := HQ.out.new K1
  have sB := WV.size
  have oB := WV.allOne
  have HQ1 := hidOf Q1
  have HW1 := hidOf WV
  have szd := Q1.r.z.lt
  have T2 := two_new 51 35 w1 rgZ rmZ rfl
  have TA := T2.1
  have TB := T2.2.1.rowOther (rgA G2) (c := w1.heap.size) (by omega)
  have HT2 := hidOf T2
  clear QF QM QG HQ Q1 WV WV' p11 p2 p1 m3 p6 HC T2 K1
  go_upto_region 16 with (first
      | ((with_reducible change wpList _ _ _ (Oper.mk _ (Op.store 51 (Operand.tmp 13) _) _ _ _ _ :: _) _ _); refine wpList_store_rw 51 isT_rg rfl (.tmp 13) (.tmp 67) rfl w1.heap.size (rgA G2) rfl rfl rfl (rg_one _) rgZ TA rfl ?_)
      | ((with_reducible change wpList _ _ _ (Oper.mk _ (Op.store 35 (Operand.tmp 14) _) _ _ _ _ :: _) _ _); refine wpList_store_rw 35 isT_rm rfl (.tmp 14) (.tmp 68) rfl (w1.heap.size + 1) B rfl rfl sB oB rmZ TB rfl ?_))
  obtain ⟨d, hdw⟩ : ∃ d, d = w1.heap.size := ⟨_, rfl⟩
  rw [← hdw]
  refine gen_world (fun V => RW 51 V d (rgA G2) ∧ RW 35 V (d + 1) B ∧ Kept [] w1 V) ?_ ?_
  · rw [hdw]; exact ⟨(HT2.out.1.row _).rowOther _ (by omega), TB.row _, (HT2.out.2.2.setRow (Or.inr (Nat.le_refl _)) _).setRow (Or.inr (by omega)) _⟩
  have hd1 : w1.heap.size ≤ d := by omega
  clear hdw HT2 TA TB
  rintro V ⟨D0, E0, KV⟩
  have Q2 := HQ1.out.new KV
  have W2 := HW1.out.new KV
  have QG := Q2.r.g
  have D1 := E0.rowOther (rgA G2) (c := b + 1 + 1) (by omega)
  have QM := Q2.r.m.rowOther (rgA G2) (c := b + 1 + 1) (by omega)
  have HQ3 := hidOf (Q6.ofM (Q2.setG (rgA G2)).r (Q2.setG (rgA G2)).f (W2.one Q2.r.g (by decide) (k_row V (b + 1 + 1) (rgA G2))))
  clear Q2 W2 HQ1 HW1 KV E0
  go_upto_region 18 with (first
      | ((with_reducible change wpList _ _ _ (Oper.mk _ (Op.load 51 (Operand.tmp 13)) _ _ _ _ :: _) _ _); refine wpList_load_rw 51 isT_rg rfl (.tmp 13) rfl d rfl (rgA G2) rfl D0 ?_)
      | ((with_reducible change wpList _ _ _ (Oper.mk _ (Op.store 51 (Operand.tmp 5) _) _ _ _ _ :: _) _ _); refine wpList_store_rw 51 isT_rg rfl (.tmp 5) (.tmp 70) rfl (b + 1 + 1) (rgA G2) rfl rfl rfl (rg_one _) (rgA gs) QG rfl ?_)
      | ((with_reducible change wpList _ _ _ (Oper.mk _ (Op.load 35 (Operand.tmp 14)) _ _ _ _ :: _) _ _); refine wpList_load_rw 35 isT_rm rfl (.tmp 14) rfl (d + 1) rfl B sB D1 ?_)
      | ((with_reducible change wpList _ _ _ (Oper.mk _ (Op.store 35 (Operand.tmp 4) _) _ _ _ _ :: _) _ _); refine wpList_store_rw 35 isT_rm rfl (.tmp 4) (.tmp 71) rfl (b + 1) B rfl rfl sB oB M QM hM15 ?_))
  refine gen_world (fun V => Q6 w V b base g c n f CC (cnt + 1) AC A B (rgA G2)) HQ3.out ?_
  clear HQ3 D0 D1 QM QG
  rintro W2 Q3
  have p1 := cell_of_blk Q3.r.f (i := 1) k1'
  have hf := free_of_blk Q3.r.f
  have HQ4 := hidOf (Q3.nx 0)
  clear Q3
  cases st with
  | true =>
    have hu : Hid (gs.u < c.s) := hidOf (of_decide_eq_true HST.out.symm)
    go_upto_region 41 with (fail)
    refine gen_world (fun V => Q6 w V b base g c n { f with nx := 0 } CC (cnt + 1) AC _ B (rgA G2)) HQ4.out ?_
    clear HQ4 p1 hf
    rintro W4 Q4
    generalize A.setIfInBounds 1 (.int .i64 ((0 : Nat) : Int)) = X at Q4 ⊢
    go_upto_region 41 with (fail)
    refine wp_ret3 isT_rf isT_rm isT_rg (by kernel_rfl) (by kernel_rfl) (by kernel_rfl) (fun _ _ _ _ _ h => h) b (b + 1) (b + 1 + 1) (b + 1 + 1 + 1) (b + 1 + 1 + 1 + 1) (b + 1 + 1 + 1 + 1 + 1) X B (rgA G2) rfZ rmZ rgZ Q4.f.size Q4.v.size rfl Q4.f.one Q4.v.allOne (rg_one _) rfl rfl rfl Q4.r.f Q4.r.m Q4.r.g Q4.r.x Q4.r.y Q4.r.z (by omega) (by omega) (by omega) (by omega) rfl rfl rfl rfl rfl rfl rfl rfl rfl ?_
    simp only [Act.put, List.setIfInBounds_toArray, List.set_cons_zero, List.set_cons_succ]
    have EE := Q4.ret
    have sx := Q4.f.size
    have sm := Q4.v.size
    go_wp2
    refine bodyPost_ret (v := .tuple #[.agg X, .agg B, .agg (rgA G2)]) (results_rw3 Tryz.results34 isT_rf isT_rm isT_rg _ _ (b + 1 + 1 + 1) (b + 1 + 1 + 1 + 1) (b + 1 + 1 + 1 + 1 + 1) X B (rgA G2) sx sm rfl rfl rfl rfl EE.x EE.y EE.z) rfl ⟨_, _, rfl, (by rw [HQf.out, if_pos hu.out]; exact EE.f), EE.v, EE.k⟩
  | false =>
    have hu : Hid (¬ gs.u < c.s) := hidOf (of_decide_eq_false HST.out.symm)
    go_upto_region 20 with (fail)
    refine gen_world (fun V => Q6 w V b base g c n { f with nx := 0 } CC (cnt + 1) AC _ B (rgA G2)) HQ4.out ?_
    clear HQ4 p1 hf
    rintro W4 Q4
    generalize A.setIfInBounds 1 (.int .i64 ((0 : Nat) : Int)) = X at Q4 ⊢
    have F4 := Q4.r.f
    have s4 := Q4.f.size
    go_wp2_with (first
        | ((with_reducible change wpList _ _ _ (Oper.mk _ (Op.load 44 (Operand.tmp 3)) _ _ _ _ :: _) _ _); refine wpList_load_rw 44 isT_rf rfl (.tmp 3) rfl b rfl X s4 F4 ?_))
    refine (rfanewA Q4.f).mono ?_
    rintro e w5 ⟨rfl, K5⟩
    have Q5 := Q4.new K5
    have F5 := Q5.r.f
    have RA := RF.anew base w5 f f.at_
    obtain ⟨Y, hY⟩ : ∃ Y, Y = rfA (f.anew f.at_) none 0 0 none 0 0 none 0 0 := ⟨_, rfl⟩
    have hY2 : rfA (Fm.anew { f with nx := 0 } ({ f with nx := 0 } : Fm).at_) none 0 0 none 0 0 none 0 0 = Y := by rw [hY]; rfl
    rw [← hY] at RA
    rw [hY2]
    have sY := RA.size
    have oY := RA.one
    have HQ5 := hidOf (Q5.setF RA)
    clear Q4 Q5 F4 hY hY2 RA K5
    go_upto_region 41 with (first
        | ((with_reducible change wpList _ _ _ (Oper.mk _ (Op.store 44 (Operand.tmp 3) _) _ _ _ _ :: _) _ _); refine wpList_store_rw 44 isT_rf rfl (.tmp 3) (.tmp 76) rfl b Y rfl rfl sY oY X F5 s4 ?_))
    refine gen_world (fun V => Q6 w V b base g c n (f.anew f.at_) CC (cnt + 1) AC Y B (rgA G2)) HQ5.out ?_
    clear HQ5 F5
    rintro W6 Q6'
    go_upto_region 41 with (fail)
    refine wp_ret3 isT_rf isT_rm isT_rg (by kernel_rfl) (by kernel_rfl) (by kernel_rfl) (fun _ _ _ _ _ h => h) b (b + 1) (b + 1 + 1) (b + 1 + 1 + 1) (b + 1 + 1 + 1 + 1) (b + 1 + 1 + 1 + 1 + 1) Y B (rgA G2) rfZ rmZ rgZ Q6'.f.size Q6'.v.size rfl Q6'.f.one Q6'.v.allOne (rg_one _) rfl rfl rfl Q6'.r.f Q6'.r.m Q6'.r.g Q6'.r.x Q6'.r.y Q6'.r.z (by omega) (by omega) (by omega) (by omega) rfl rfl rfl rfl rfl rfl rfl rfl rfl ?_
    simp only [Act.put, List.setIfInBounds_toArray, List.set_cons_zero, List.set_cons_succ]
    have EE := Q6'.ret
    have sx := Q6'.f.size
    have sm := Q6'.v.size
    go_wp2
    refine bodyPost_ret (v := .tuple #[.agg Y, .agg B, .agg (rgA G2)]) (results_rw3 Tryz.results34 isT_rf isT_rm isT_rg _ _ (b + 1 + 1 + 1) (b + 1 + 1 + 1 + 1) (b + 1 + 1 + 1 + 1 + 1) Y B (rgA G2) sx sm rfl rfl rfl rfl EE.x EE.y EE.z) rfl ⟨_, _, rfl, (by rw [HQf.out, if_neg (show ¬ gs.u < c.s by have := hu.out; omega)]; exact EE.f), EE.v, EE.k⟩
end K
end Go.Proofs.YtgafmklfpiipcaaGreatDoor
namespace Go.Proofs.YtgafmklfpiipcaaGreatDoor
open Go.RowKit (Grown Hid Below)
open Go.Deep
namespace K
set_option maxRecDepth 100000
set_option maxHeartbeats 8000000 in
theorem rfs3_any {base g : Nat} {c : Cfg} {f : Fm} {A : Array Value} {gs : Gs} {cs : List Int} {cap : Nat} {cnt : Int} {w : World} (a : Acc) (S : SQ base w g c f A gs cs cap cnt) (hd : f.d = false) (hnx : f.nx = 3) :
    Calls Tryz.prog 34 #[.agg A, .agg (rmA c (some ⟨g, 0, none⟩) cs.length cap cnt a), .agg (rgA gs)] w fun e w' => ∃ X B, e = .returned (.tuple #[.agg X, .agg B, .agg (rgA gs)]) ∧ RF base w' { f with s := fd c cs (ixV f.x) (6 + lv c f), nx := if mkB (fd c cs (ixV f.x) (6 + lv c f)) = true then 4 else 5 } X ∧ Wv w g c cs.length cs (cnt + 1) (acV cs 1 (clV' c (ixV f.x) (6 + lv c f)) (plainV f.x) 0 0) B w' ∧ Kept [] w w' := by
  obtain ⟨hRF, hR, hl, c0, c1, R, fi, wd, hb, u0, u1⟩ := S
  have hdn := fi.lt hd
  have hHN := HN_eq R
  have R1 := R.h1
  have Rs := R.s1
  have hlv : lv c f = c.h - 1 - (f.dn : Int) := rfl
  have HC := hidOf (fun (W : World) (k : Kept [] w W) => rloadW c g cs cap cnt a f.x (6 + lv c f) W (hR.kept k (by simp)) hl fi.x c0 c1)
  have HWX := fd_word (c := c) wd (ixV f.x) (6 + lv c f)
  have HMk := hidOf (fun W => rmarked_any (fd c cs (ixV f.x) (6 + lv c f)) W HWX.1 HWX.2)
  generalize acV cs 1 (clV' c (ixV f.x) (6 + lv c f)) (plainV f.x) 0 0 = AC at HC ⊢
  generalize fd c cs (ixV f.x) (6 + lv c f) = Xo at HC HMk HWX ⊢
  rw [hlv] at HC
  clear HWX
  obtain ⟨Qf, hQf⟩ : ∃ Qf : Fm, Qf = { f with s := Xo, nx := if mkB Xo = true then 4 else 5 } := ⟨_, rfl⟩
  rw [← hQf]
  have HQf := hidOf hQf
  clear hQf
  obtain ⟨n, hn⟩ : ∃ n, n = cs.length := ⟨_, rfl⟩
  obtain ⟨M, hM⟩ : ∃ M, M = rmA c (some ⟨g, 0, none⟩) cs.length cap cnt a := ⟨_, rfl⟩
  have hM15 : M.size = 15 := by rw [hM]; rfl
  have hM3 : M[3]? = some (.int .i64 c.h) := by rw [hM]; rfl
  have hMv : Wv w g c cs.length cs cnt a M w := ⟨g, cap, hM, Or.inl rfl, hR⟩
  rw [← hM] at HC ⊢
  rw [← hn] at HC hMv ⊢
  have s12 := hRF.size
  obtain ⟨k0, k1, k2, k3, k4, k5, k6, k10, k11⟩ := hRF.cells
  rw [hd] at k11
  have k1' : A[1]? = some (.int .i64 3) := by rw [k1, hnx]; rfl
  have d0 : (0 : Int) ≤ f.dn := by omega
  have d1 : (f.dn : Int) + 1 ≤ c.h := by omega
  obtain ⟨b, hbw⟩ : ∃ b, b = w.heap.size := ⟨_, rfl⟩
  have ST := hidOf (show Q6 w _ b base g c n f cs cnt a A M (rgA gs) from ⟨R6.start w A M (rgA gs) hbw, hRF.new (R6.start w A M (rgA gs) hbw).k, hMv.new (R6.start w A M (rgA gs) hbw).k⟩)
  clear hRF hR hl hM hn R fi wd hMv hdn hHN k1
  go_enter Tryz.func34, Tryz.ntmps34
  go_upto_region 1 with (fail)
  rw [← hbw]
  refine gen_world (fun W => Q6 w W b base g c n f cs cnt a A M (rgA gs)) ST.out ?_
  have hbb : w.heap.size ≤ b := by omega
  clear ST hbw
  rintro W Q0
  have p11 := cell_of_blk Q0.r.f (i := 11) k11
  have p2 := cell_of_blk Q0.r.f (i := 2) k2
  have p1 := cell_of_blk Q0.r.f (i := 1) k1'
  have m3 := cell_of_blk Q0.r.m (i := 3) hM3
  have HQ := hidOf Q0
  clear Q0
  go_upto_region 22 with (fail)
  have QF := HQ.out.r.f
  have QM := HQ.out.r.m
  have QG := HQ.out.r.g
  have p4 := cell_of_blk QF (i := 4) k4
  go_wp2_with (first
      | ((with_reducible change wpList _ _ _ (Oper.mk _ (Op.load 35 (Operand.tmp 4)) _ _ _ _ :: _) _ _); refine wpList_load_rw 35 isT_rm rfl (.tmp 4) rfl (b + 1) rfl M hM15 QM ?_))
  refine (HC.out _ HQ.out.r.k).mono ?_
  rintro e w1 ⟨B, rfl, WV', K1⟩
  have WV := WV'.old (w := w) HQ.out.r.k.size
  clear HC WV' p4
  have Q1 := HQ.out.new K1
  have sB := WV.size
  have oB := WV.allOne
  have HQ1 := hidOf Q1
  have HW1 := hidOf WV
  have szd := Q1.r.z.lt
  obtain ⟨d, hdw⟩ : ∃ d, d = w1.heap.size := ⟨_, rfl⟩
  clear QF QM QG HQ Q1 WV p11 p2 p1 m3
  go_upto_region 23 with (first
      | ((with_reducible change wpList _ _ _ (Oper.mk _ (Op.store 35 (Operand.tmp 16) _) _ _ _ _ :: _) _ _); refine wpList_store_rw 35 isT_rm rfl (.tmp 16) (.tmp 86) rfl w1.heap.size B rfl rfl sB oB rmZ (RW.new 35 w1 rmZ) rfl ?_))
  rw [← hdw]
  refine gen_world (fun V => RW 35 V d B ∧ Kept [] w1 V) ?_ ?_
  · rw [hdw]; exact ⟨(RW.new 35 w1 rmZ).row _, ((Kept.refl [] w1).alloc _).setRow (Or.inr (Nat.le_refl _)) _⟩
  have hd1 : w1.heap.size ≤ d := by omega
  clear hdw K1
  rintro V ⟨D0, KV⟩
  have Q2 := HQ1.out.new KV
  have W2 := HW1.out.new KV
  have QM := Q2.r.m
  have HQ2 := hidOf Q2
  have HW2 := hidOf W2
  clear Q2 W2 HQ1 HW1 KV
  go_upto_region 24 with (first
      | ((with_reducible change wpList _ _ _ (Oper.mk _ (Op.load 35 (Operand.tmp 16)) _ _ _ _ :: _) _ _); refine wpList_load_rw 35 isT_rm rfl (.tmp 16) rfl d rfl B sB D0 ?_)
      | ((with_reducible change wpList _ _ _ (Oper.mk _ (Op.store 35 (Operand.tmp 4) _) _ _ _ _ :: _) _ _); refine wpList_store_rw 35 isT_rm rfl (.tmp 4) (.tmp 88) rfl (b + 1) B rfl rfl sB oB M QM hM15 ?_))
  refine gen_world (fun V => Q6 w V b base g c n f cs (cnt + 1) AC A B (rgA gs)) (Q6.ofM HQ2.out.r HQ2.out.f HW2.out) ?_
  clear HQ2 HW2 D0 QM
  rintro W2 Q3
  have p1 := cell_of_blk Q3.r.f (i := 1) k1'
  have p5 := cell_of_blk Q3.r.f (i := 5) k5
  have hf := free_of_blk Q3.r.f
  have HQ4 := hidOf ((Q3.s Xo).nx 5)
  clear Q3
  go_upto_region 26 with (fail)
  refine gen_world (fun V => Q6 w V b base g c n { f with s := Xo, nx := 5 } cs (cnt + 1) AC _ B (rgA gs)) HQ4.out ?_
  clear HQ4 p1 p5 hf
  rintro W4 Q4
  generalize (A.setIfInBounds 5 (.int .u64 Xo)).setIfInBounds 1 (.int .i64 ((5 : Nat) : Int)) = X at Q4 ⊢
  go_wp2_with fail
  refine (HMk.out _).mono ?_
  rintro e w5 ⟨rfl, K5⟩
  have Q5 := Q4.new K5
  clear Q4 K5 HMk
  cases hmk : mkB Xo with
  | true =>
    have HE := hidOf hmk
    have p1 := cell_of_blk Q5.r.f (i := 1) Q5.f.cells.2.1
    have hf := free_of_blk Q5.r.f
    have HQ6 := hidOf (Q5.nx 4)
    clear Q5 hmk
    go_upto_region 41 with (fail)
    refine gen_world (fun V => Q6 w V b base g c n { f with s := Xo, nx := 4 } cs (cnt + 1) AC _ B (rgA gs)) HQ6.out ?_
    clear HQ6 p1 hf
    rintro W6 Q7
    generalize X.setIfInBounds 1 (.int .i64 ((4 : Nat) : Int)) = Y at Q7 ⊢
    go_upto_region 41 with (fail)
    refine wp_ret3 isT_rf isT_rm isT_rg (by kernel_rfl) (by kernel_rfl) (by kernel_rfl) (fun _ _ _ _ _ h => h) b (b + 1) (b + 1 + 1) (b + 1 + 1 + 1) (b + 1 + 1 + 1 + 1) (b + 1 + 1 + 1 + 1 + 1) Y B (rgA gs) rfZ rmZ rgZ Q7.f.size Q7.v.size rfl Q7.f.one Q7.v.allOne (rg_one _) rfl rfl rfl Q7.r.f Q7.r.m Q7.r.g Q7.r.x Q7.r.y Q7.r.z (by omega) (by omega) (by omega) (by omega) rfl rfl rfl rfl rfl rfl rfl rfl rfl ?_
    simp only [Act.put, List.setIfInBounds_toArray, List.set_cons_zero, List.set_cons_succ]
    have EE := Q7.ret
    have sx := Q7.f.size
    have sm := Q7.v.size
    go_wp2
    refine bodyPost_ret (v := .tuple #[.agg Y, .agg B, .agg (rgA gs)]) (results_rw3 Tryz.results34 isT_rf isT_rm isT_rg _ _ (b + 1 + 1 + 1) (b + 1 + 1 + 1 + 1) (b + 1 + 1 + 1 + 1 + 1) Y B (rgA gs) sx sm rfl rfl rfl rfl EE.x EE.y EE.z) rfl ⟨_, _, rfl, (by rw [HQf.out, if_pos HE.out]; exact EE.f), EE.v, EE.k⟩
  | false =>
    have HE := hidOf (show ¬ mkB Xo = true by rw [hmk]; decide)
    clear hmk
    go_upto_region 41 with (fail)
    refine wp_ret3 isT_rf isT_rm isT_rg (by kernel_rfl) (by kernel_rfl) (by kernel_rfl) (fun _ _ _ _ _ h => h) b (b + 1) (b + 1 + 1) (b + 1 + 1 + 1) (b + 1 + 1 + 1 + 1) (b + 1 + 1 + 1 + 1 + 1) X B (rgA gs) rfZ rmZ rgZ Q5.f.size Q5.v.size rfl Q5.f.one Q5.v.allOne (rg_one _) rfl rfl rfl Q5.r.f Q5.r.m Q5.r.g Q5.r.x Q5.r.y Q5.r.z (by omega) (by omega) (by omega) (by omega) rfl rfl rfl rfl rfl rfl rfl rfl rfl ?_
    simp only [Act.put, List.setIfInBounds_toArray, List.set_cons_zero, List.set_cons_succ]
    have EE := Q5.ret
    have sx := Q5.f.size
    have sm := Q5.v.size
    go_wp2
    refine bodyPost_ret (v := .tuple #[.agg X, .agg B, .agg (rgA gs)]) (results_rw3 Tryz.results34 isT_rf isT_rm isT_rg _ _ (b + 1 + 1 + 1) (b + 1 + 1 + 1 + 1) (b + 1 + 1 + 1 + 1 + 1) X B (rgA gs) sx sm rfl rfl rfl rfl EE.x EE.y EE.z) rfl ⟨_, _, rfl, (by rw [HQf.out, if_neg HE.out]; exact EE.f), EE.v, EE.k⟩
set_option maxHeartbeats 8000000 in
theorem rfs5_any {base g : Nat} {c : Cfg} {f : Fm} {A : Array Value} {gs : Gs} {cs : List Int} {cap : Nat} {cnt : Int} {w : World} (a : Acc) (S : SQ base w g c f A gs cs cap cnt) (hd : f.d = false) (hnx : f.nx = 5) :
    Calls Tryz.prog 34 #[.agg A, .agg (rmA c (some ⟨g, 0, none⟩) cs.length cap cnt a), .agg (rgA gs)] w fun e w' => ∃ X B, e = .returned (.tuple #[.agg X, .agg B, .agg (rgA gs)]) ∧ RF base w' (if f.k ≤ fd c cs (ixV f.x) 1 then f.ended c f.at_ f.x (fd c cs (ixV f.x) 1) else { f with pr := f.x, nx := 0 }) X ∧ Wv w g c cs.length cs (cnt + 1) (acV cs 1 (clV' c (ixV f.x) 1) (plainV f.x) 0 0) B w' ∧ Kept [] w w' := by
  obtain ⟨hRF, hR, hl, c0, c1, R, fi, wd, hb, u0, u1⟩ := S
  have hdn := fi.lt hd
  have hHN := HN_eq R
  have R1 := R.h1
  have Rs := R.s1
  have hlv : lv c f = c.h - 1 - (f.dn : Int) := rfl
  have HC := hidOf (fun (W : World) (k : Kept [] w W) => rloadW c g cs cap cnt a f.x 1 W (hR.kept k (by simp)) hl fi.x c0 c1)
  have hlens : Hid (f.ps.length ≤ 1000 ∧ f.ss.length ≤ 1000 ∧ f.ks.length ≤ 1000 ∧ f.dn ≤ 1000) := ⟨by rw [fi.ps]; omega, by rw [fi.ss]; omega, by rw [fi.ks]; omega, by omega⟩
  generalize acV cs 1 (clV' c (ixV f.x) 1) (plainV f.x) 0 0 = AC at HC ⊢
  generalize fd c cs (ixV f.x) 1 = Xo at HC ⊢
  obtain ⟨Qf, hQf⟩ : ∃ Qf : Fm, Qf = if f.k ≤ Xo then f.ended c f.at_ f.x Xo else { f with pr := f.x, nx := 0 } := ⟨_, rfl⟩
  rw [← hQf]
  have HQf := hidOf hQf
  clear hQf
  obtain ⟨n, hn⟩ : ∃ n, n = cs.length := ⟨_, rfl⟩
  obtain ⟨M, hM⟩ : ∃ M, M = rmA c (some ⟨g, 0, none⟩) cs.length cap cnt a := ⟨_, rfl⟩
  have hM15 : M.size = 15 := by rw [hM]; rfl
  have hM3 : M[3]? = some (.int .i64 c.h) := by rw [hM]; rfl
  have hMv : Wv w g c cs.length cs cnt a M w := ⟨g, cap, hM, Or.inl rfl, hR⟩
  rw [← hM] at HC ⊢
  rw [← hn] at HC hMv ⊢
  have s12 := hRF.size
  obtain ⟨k0, k1, k2, k3, k4, k5, k6, k10, k11⟩ := hRF.cells
  rw [hd] at k11
  have k1' : A[1]? = some (.int .i64 5) := by rw [k1, hnx]; rfl
  have d0 : (0 : Int) ≤ f.dn := by omega
  have d1 : (f.dn : Int) + 1 ≤ c.h := by omega
  obtain ⟨b, hbw⟩ : ∃ b, b = w.heap.size := ⟨_, rfl⟩
  have ST := hidOf (show Q6 w _ b base g c n f cs cnt a A M (rgA gs) from ⟨R6.start w A M (rgA gs) hbw, hRF.new (R6.start w A M (rgA gs) hbw).k, hMv.new (R6.start w A M (rgA gs) hbw).k⟩)
  clear hRF hR hl hM hn R fi wd hMv hdn hHN k1
  go_enter Tryz.func34, Tryz.ntmps34
  go_upto_region 1 with (fail)
  rw [← hbw]
  refine gen_world (fun W => Q6 w W b base g c n f cs cnt a A M (rgA gs)) ST.out ?_
  have hbb : w.heap.size ≤ b := by omega
  clear ST hbw
  rintro W Q0
  have p11 := cell_of_blk Q0.r.f (i := 11) k11
  have p2 := cell_of_blk Q0.r.f (i := 2) k2
  have p1 := cell_of_blk Q0.r.f (i := 1) k1'
  have m3 := cell_of_blk Q0.r.m (i := 3) hM3
  have HQ := hidOf Q0
  clear Q0
  go_upto_region 35 with (fail)
  have QF := HQ.out.r.f
  have QM := HQ.out.r.m
  have QG := HQ.out.r.g
  have p4 := cell_of_blk QF (i := 4) k4
  go_wp2_with (first
      | ((with_reducible change wpList _ _ _ (Oper.mk _ (Op.load 35 (Operand.tmp 4)) _ _ _ _ :: _) _ _); refine wpList_load_rw 35 isT_rm rfl (.tmp 4) rfl (b + 1) rfl M hM15 QM ?_))
  refine (HC.out _ HQ.out.r.k).mono ?_
  rintro e w1 ⟨B, rfl, WV', K1⟩
  have WV := WV'.old (w := w) HQ.out.r.k.size
  clear HC WV' p4
  have Q1 := HQ.out.new K1
  have sB := WV.size
  have oB := WV.allOne
  have HQ1 := hidOf Q1
  have HW1 := hidOf WV
  have szd := Q1.r.z.lt
  obtain ⟨d, hdw⟩ : ∃ d, d = w1.heap.size := ⟨_, rfl⟩
  clear QF QM QG HQ Q1 WV p11 p2 p1 m3
  go_upto_region 36 with (first
      | ((with_reducible change wpList _ _ _ (Oper.mk _ (Op.store 35 (Operand.tmp 20) _) _ _ _ _ :: _) _ _); refine wpList_store_rw 35 isT_rm rfl (.tmp 20) (.tmp 124) rfl w1.heap.size B rfl rfl sB oB rmZ (RW.new 35 w1 rmZ) rfl ?_))
  rw [← hdw]
  refine gen_world (fun V => RW 35 V d B ∧ Kept [] w1 V) ?_ ?_
  · rw [hdw]; exact ⟨(RW.new 35 w1 rmZ).row _, ((Kept.refl [] w1).alloc _).setRow (Or.inr (Nat.le_refl _)) _⟩
  have hd1 : w1.heap.size ≤ d := by omega
  clear hdw K1
  rintro V ⟨D0, KV⟩
  have Q2 := HQ1.out.new KV
  have W2 := HW1.out.new KV
  have QM := Q2.r.m
  have HQ2 := hidOf Q2
  have HW2 := hidOf W2
  clear Q2 W2 HQ1 HW1 KV
  go_upto_region 37 with (first
      | ((with_reducible change wpList _ _ _ (Oper.mk _ (Op.load 35 (Operand.tmp 20)) _ _ _ _ :: _) _ _); refine wpList_load_rw 35 isT_rm rfl (.tmp 20) rfl d rfl B sB D0 ?_)
      | ((with_reducible change wpList _ _ _ (Oper.mk _ (Op.store 35 (Operand.tmp 4) _) _ _ _ _ :: _) _ _); refine wpList_store_rw 35 isT_rm rfl (.tmp 4) (.tmp 126) rfl (b + 1) B rfl rfl sB oB M QM hM15 ?_))
  refine gen_world (fun V => Q6 w V b base g c n f cs (cnt + 1) AC A B (rgA gs)) (Q6.ofM HQ2.out.r HQ2.out.f HW2.out) ?_
  clear HQ2 HW2 D0 QM
  rintro W2 Q3
  have p0 := cell_of_blk Q3.r.f (i := 0) k0
  have p4 := cell_of_blk Q3.r.f (i := 4) k4
  by_cases hk : f.k ≤ Xo
  · have HE := hidOf hk
    have HQ3 := hidOf Q3
    have QF := Q3.r.f
    have QM := Q3.r.m
    have HB := hidOf (Q3.v.cells.1)
    have sBm := Q3.v.size
    clear Q3
    go_wp2_with (first
      | ((with_reducible change wpList _ _ _ (Oper.mk _ (Op.load 44 (Operand.tmp 3)) _ _ _ _ :: _) _ _); refine wpList_load_rw 44 isT_rf rfl (.tmp 3) rfl b rfl A s12 QF ?_)
      | ((with_reducible change wpList _ _ _ (Oper.mk _ (Op.load 35 (Operand.tmp 4)) _ _ _ _ :: _) _ _); refine wpList_load_rw 35 isT_rm rfl (.tmp 4) rfl (b + 1) rfl B sBm QM ?_))
    refine (rended_any c f A B base f.x Xo _ HQ3.out.f HB.out (by have := HQ3.out.r.k.size; omega) hlens.out).mono ?_
    rintro e w5 ⟨X, rfl, RX, K5⟩
    have Q5 := HQ3.out.new K5
    have F5 := Q5.r.f
    have sX := RX.size
    have oX := RX.one
    have HQ5 := hidOf (Q5.setF RX)
    clear Q5 HQ3 QF QM RX K5 p0 p4
    go_upto_region 41 with (first
      | ((with_reducible change wpList _ _ _ (Oper.mk _ (Op.store 44 (Operand.tmp 3) _) _ _ _ _ :: _) _ _); refine wpList_store_rw 44 isT_rf rfl (.tmp 3) (.tmp 136) rfl b X rfl rfl sX oX A F5 s12 ?_))
    refine gen_world (fun V => Q6 w V b base g c n (f.ended c f.at_ f.x Xo) cs (cnt + 1) AC X B (rgA gs)) HQ5.out ?_
    clear HQ5 F5
    rintro W6 Q7
    go_upto_region 41 with (fail)
    refine wp_ret3 isT_rf isT_rm isT_rg (by kernel_rfl) (by kernel_rfl) (by kernel_rfl) (fun _ _ _ _ _ h => h) b (b + 1) (b + 1 + 1) (b + 1 + 1 + 1) (b + 1 + 1 + 1 + 1) (b + 1 + 1 + 1 + 1 + 1) X B (rgA gs) rfZ rmZ rgZ Q7.f.size Q7.v.size rfl Q7.f.one Q7.v.allOne (rg_one _) rfl rfl rfl Q7.r.f Q7.r.m Q7.r.g Q7.r.x Q7.r.y Q7.r.z (by omega) (by omega) (by omega) (by omega) rfl rfl rfl rfl rfl rfl rfl rfl rfl ?_
    simp only [Act.put, List.setIfInBounds_toArray, List.set_cons_zero, List.set_cons_succ]
    have EE := Q7.ret
    have sx := Q7.f.size
    have sm := Q7.v.size
    go_wp2
    refine bodyPost_ret (v := .tuple #[.agg X, .agg B, .agg (rgA gs)]) (results_rw3 Tryz.results34 isT_rf isT_rm isT_rg _ _ (b + 1 + 1 + 1) (b + 1 + 1 + 1 + 1) (b + 1 + 1 + 1 + 1 + 1) X B (rgA gs) sx sm rfl rfl rfl rfl EE.x EE.y EE.z) rfl ⟨_, _, rfl, (by rw [HQf.out, if_pos HE.out]; exact EE.f), EE.v, EE.k⟩
  · have HE := hidOf hk
    have p1 := cell_of_blk Q3.r.f (i := 1) k1'
    have p3 := cell_of_blk Q3.r.f (i := 3) k3
    have hf := free_of_blk Q3.r.f
    have HQ4 := hidOf ((Q3.pr f.x).nx 0)
    clear Q3
    go_upto_region 41 with (fail)
    refine gen_world (fun V => Q6 w V b base g c n { f with pr := f.x, nx := 0 } cs (cnt + 1) AC _ B (rgA gs)) HQ4.out ?_
    clear HQ4 p0 p1 p3 p4 hf
    rintro W4 Q4
    generalize (A.setIfInBounds 3 (.int .u64 f.x)).setIfInBounds 1 (.int .i64 ((0 : Nat) : Int)) = X at Q4 ⊢
    go_upto_region 41 with (fail)
    refine wp_ret3 isT_rf isT_rm isT_rg (by kernel_rfl) (by kernel_rfl) (by kernel_rfl) (fun _ _ _ _ _ h => h) b (b + 1) (b + 1 + 1) (b + 1 + 1 + 1) (b + 1 + 1 + 1 + 1) (b + 1 + 1 + 1 + 1 + 1) X B (rgA gs) rfZ rmZ rgZ Q4.f.size Q4.v.size rfl Q4.f.one Q4.v.allOne (rg_one _) rfl rfl rfl Q4.r.f Q4.r.m Q4.r.g Q4.r.x Q4.r.y Q4.r.z (by omega) (by omega) (by omega) (by omega) rfl rfl rfl rfl rfl rfl rfl rfl rfl ?_
    simp only [Act.put, List.setIfInBounds_toArray, List.set_cons_zero, List.set_cons_succ]
    have EE := Q4.ret
    have sx := Q4.f.size
    have sm := Q4.v.size
    go_wp2
    refine bodyPost_ret (v := .tuple #[.agg X, .agg B, .agg (rgA gs)]) (results_rw3 Tryz.results34 isT_rf isT_rm isT_rg _ _ (b + 1 + 1 + 1) (b + 1 + 1 + 1 + 1) (b + 1 + 1 + 1 + 1 + 1) X B (rgA gs) sx sm rfl rfl rfl rfl EE.x EE.y EE.z) rfl ⟨_, _, rfl, (by rw [HQf.out, if_neg (show ¬ f.k ≤ Xo by have := HE.out; omega)]; exact EE.f), EE.v, EE.k⟩
set_option maxHeartbeats 8000000 in
theorem rfs4_any {base g : Nat} {c : Cfg} {f : Fm} {A : Array Value} {gs : Gs} {cs : List Int} {cap : Nat} {cnt : Int} {w : World} (a : Acc) (S : SQ base w g c f A gs cs cap cnt) (hd : f.d = false) (hnx : f.nx = 4) :
    Calls Tryz.prog 34 #[.agg A, .agg (rmA c (some ⟨g, 0, none⟩) cs.length cap cnt a), .agg (rgA gs)] w fun e w' => ∃ X B, e = .returned (.tuple #[.agg X, .agg B, .agg (rgA gs)]) ∧ RF base w' (if (acV cs 3 (clV' c (ixV f.pr) (6 + lv c f)) (plainV f.pr) f.x (plainV f.s)).d = true then { f with nx := 0 } else f.anew f.at_) X ∧ Wv w g c cs.length (clV cs 3 (clV' c (ixV f.pr) (6 + lv c f)) f.x (plainV f.s)) (cnt + 1) (acV cs 3 (clV' c (ixV f.pr) (6 + lv c f)) (plainV f.pr) f.x (plainV f.s)) B w' ∧ Kept [] w w' := by
  obtain ⟨hRF, hR, hl, c0, c1, R, fi, wd, hb, u0, u1⟩ := S
  have hdn := fi.lt hd
  have hHN := HN_eq R
  have R1 := R.h1
  have Rs := R.s1
  have hlv : lv c f = c.h - 1 - (f.dn : Int) := rfl
  have HC := hidOf (fun (W : World) (k : Kept [] w W) => rswapW c g cs cap cnt a f.pr (6 + lv c f) f.x (plainV f.s) W (hR.kept k (by simp)) hl fi.pr c0 c1)
  have HPl := hidOf (fun W => rplain_any f.s W fi.s.1 fi.s.2)
  obtain ⟨st, hst⟩ : ∃ st, st = (acV cs 3 (clV' c (ixV f.pr) (6 + lv c f)) (plainV f.pr) f.x (plainV f.s)).d := ⟨_, rfl⟩
  rw [← hst] at HC ⊢
  clear hst
  generalize acV cs 3 (clV' c (ixV f.pr) (6 + lv c f)) (plainV f.pr) f.x (plainV f.s) = AC at HC ⊢
  generalize clV cs 3 (clV' c (ixV f.pr) (6 + lv c f)) f.x (plainV f.s) = CC at HC ⊢
  have ew : IntKind.i64.wrap (6 + (c.h - 1 - (f.dn : Int))) = 6 + (c.h - 1 - (f.dn : Int)) := by rw [IntKind.wrap_i64]; omega
  rw [hlv, ← ew] at HC
  clear ew
  generalize plainV f.s = P at HC HPl
  obtain ⟨Qf, hQf⟩ : ∃ Qf : Fm, Qf = if st = true then { f with nx := 0 } else f.anew f.at_ := ⟨_, rfl⟩
  rw [← hQf]
  have HQf := hidOf hQf
  clear hQf
  obtain ⟨n, hn⟩ : ∃ n, n = cs.length := ⟨_, rfl⟩
  obtain ⟨M, hM⟩ : ∃ M, M = rmA c (some ⟨g, 0, none⟩) cs.length cap cnt a := ⟨_, rfl⟩
  have hM15 : M.size = 15 := by rw [hM]; rfl
  have hM3 : M[3]? = some (.int .i64 c.h) := by rw [hM]; rfl
  have hMv : Wv w g c cs.length cs cnt a M w := ⟨g, cap, hM, Or.inl rfl, hR⟩
  rw [← hM] at HC ⊢
  rw [← hn] at HC hMv ⊢
  have s12 := hRF.size
  obtain ⟨k0, k1, k2, k3, k4, k5, k6, k10, k11⟩ := hRF.cells
  rw [hd] at k11
  have k1' : A[1]? = some (.int .i64 4) := by rw [k1, hnx]; rfl
  have d0 : (0 : Int) ≤ f.dn := by omega
  have d1 : (f.dn : Int) + 1 ≤ c.h := by omega
  obtain ⟨b, hbw⟩ : ∃ b, b = w.heap.size := ⟨_, rfl⟩
  have ST := hidOf (show Q6 w _ b base g c n f cs cnt a A M (rgA gs) from ⟨R6.start w A M (rgA gs) hbw, hRF.new (R6.start w A M (rgA gs) hbw).k, hMv.new (R6.start w A M (rgA gs) hbw).k⟩)
  clear hRF hR hl hM hn R fi wd hMv hdn hHN k1
  go_enter Tryz.func34, Tryz.ntmps34
  go_upto_region 1 with (fail)
  rw [← hbw]
  refine gen_world (fun W => Q6 w W b base g c n f cs cnt a A M (rgA gs)) ST.out ?_
  have hbb : w.heap.size ≤ b := by omega
  clear ST hbw
  rintro W Q0
  have p11 := cell_of_blk Q0.r.f (i := 11) k11
  have p2 := cell_of_blk Q0.r.f (i := 2) k2
  have p1 := cell_of_blk Q0.r.f (i := 1) k1'
  have m3 := cell_of_blk Q0.r.m (i := 3) hM3
  have HQ := hidOf Q0
  clear Q0
  go_upto_region 29 with (fail)
  have QF := HQ.out.r.f
  have QM := HQ.out.r.m
  have QG := HQ.out.r.g
  clear QF QM QG p11 p1 p2 m3
  have Q1 : Q6 w W.drew b base g c n f cs cnt a A M (rgA gs) := HQ.out.new (Kept.refl [] W).drew
  refine region_key (fun a0 a' w' => ∃ d B, a' = ((((((((((((((((a0.put (some 98) (.agg M)).put (some 99) (.pointer (some ⟨b, 3, none⟩))).put (some 100) (.int .u64 f.pr)).put (some 101) (.int .i64 (c.h - 1 - (f.dn : Int)))).put (some 102) (.int .i64 (IntKind.i64.wrap (6 + (c.h - 1 - (f.dn : Int)))))).put (some 103) (.pointer (some ⟨b, 4, none⟩))).put (some 104) (.int .u64 f.x)).put (some 105) (.pointer (some ⟨b, 5, none⟩))).put (some 106) (.int .u64 f.s)).put (some 107) (.int .u64 P)).put (some 108) (.tuple #[.agg B, .bool st])).put (some 97) (.tuple #[.agg B, .bool st])).put (some 109) (.agg B)).put (some 110) (.bool st)).put (some 18) (.pointer (some ⟨d, 0, none⟩))).put (some 19) (.bool st)) ∧ RW 35 w' d B ∧ Q6 w w' b base g c n f cs cnt a A M (rgA gs) ∧ Wv w g c n CC (cnt + 1) AC B w') ?_ ?_
  · refine wp_region_held_drew (S := fun w' => RW 44 w' b A ∧ RW 35 w' (b + 1) M) (by kernel_rfl) ⟨Q1.r.f, Q1.r.m⟩ (fun hS => ?_)
    generalize W.drew = W1 at Q1 hS ⊢
    refine wpAnyH_take (i := 0) (oi := { dst := some 98, op := Op.load 35 (Operand.tmp 4), type := 35, pos := "ref.go:96", after := #[], guard := none }) (v := Value.agg M) rfl (by kernel_rfl) (by kernel_rfl) (by kernel_rfl) (fun _ _ _ h => nomatch h.1) (yieldsIf_load_rw rfl 35 isT_rm (.tmp 4) rfl (b + 1) rfl M hM15 (fun _ h => h.2)) hS ?_
    try simp only [Act.put, List.setIfInBounds_toArray, List.set_cons_zero, List.set_cons_succ]
    refine wpAnyH_take (i := 1) (oi := { dst := some 99, op := Op.fieldAddr 44 (Operand.tmp 3) 3, type := 0, pos := "ref.go:96", after := #[], guard := none }) (v := Value.pointer (some ⟨b, 3, none⟩)) rfl (by kernel_rfl) (by kernel_rfl) (by kernel_rfl) (fun _ _ _ h => nomatch h.1) (Or.inl ⟨rfl, fun _ _ => by kernel_rfl⟩) hS ?_
    try simp only [Act.put, List.setIfInBounds_toArray, List.set_cons_zero, List.set_cons_succ]
    refine wpAnyH_take (i := 2) (oi := { dst := some 100, op := Op.load 25 (Operand.tmp 99), type := 25, pos := "ref.go:96", after := #[{ on := 1, ground := Ground.data }], guard := none }) (v := Value.int .u64 f.pr) rfl (by kernel_rfl) (by kernel_rfl) (by kernel_rfl) (fun _ _ _ h => nomatch h.1) (Or.inl ⟨rfl, fun w hSw => by have z := cell_of_blk hSw.1 (i := 3) (v := .int .u64 f.pr) k3; go_simp⟩) hS ?_
    try simp only [Act.put, List.setIfInBounds_toArray, List.set_cons_zero, List.set_cons_succ]
    refine wpAnyH_take (i := 3) (oi := { dst := some 101, op := Op.move (Operand.tmp 9), type := 3, pos := "ref.go:96", after := #[], guard := none }) (v := Value.int .i64 (c.h - 1 - (f.dn : Int))) rfl (by kernel_rfl) (by kernel_rfl) (by kernel_rfl) (fun _ _ _ h => nomatch h.1) (Or.inl ⟨rfl, fun _ _ => by kernel_rfl⟩) hS ?_
    try simp only [Act.put, List.setIfInBounds_toArray, List.set_cons_zero, List.set_cons_succ]
    refine wpAnyH_take (i := 4) (oi := { dst := some 102, op := Op.binOp BinOp.add 3 (Operand.const (Value.int IntKind.i64 6)) (Operand.tmp 101) 3, type := 3, pos := "ref.go:96", after := #[{ on := 3, ground := Ground.data }], guard := none }) (v := Value.int .i64 (IntKind.i64.wrap (6 + (c.h - 1 - (f.dn : Int))))) rfl (by kernel_rfl) (by kernel_rfl) (by kernel_rfl) (fun _ _ _ h => nomatch h.1) (Or.inl ⟨rfl, fun _ _ => by kernel_rfl⟩) hS ?_
    try simp only [Act.put, List.setIfInBounds_toArray, List.set_cons_zero, List.set_cons_succ]
    refine wpAnyH_take (i := 5) (oi := { dst := some 103, op := Op.fieldAddr 44 (Operand.tmp 3) 4, type := 0, pos := "ref.go:96", after := #[], guard := none }) (v := Value.pointer (some ⟨b, 4, none⟩)) rfl (by kernel_rfl) (by kernel_rfl) (by kernel_rfl) (fun _ _ _ h => nomatch h.1) (Or.inl ⟨rfl, fun _ _ => by kernel_rfl⟩) hS ?_
    try simp only [Act.put, List.setIfInBounds_toArray, List.set_cons_zero, List.set_cons_succ]
    refine wpAnyH_take (i := 6) (oi := { dst := some 104, op := Op.load 25 (Operand.tmp 103), type := 25, pos := "ref.go:96", after := #[{ on := 5, ground := Ground.data }], guard := none }) (v := Value.int .u64 f.x) rfl (by kernel_rfl) (by kernel_rfl) (by kernel_rfl) (fun _ _ _ h => nomatch h.1) (Or.inl ⟨rfl, fun w hSw => by have z := cell_of_blk hSw.1 (i := 4) (v := .int .u64 f.x) k4; go_simp⟩) hS ?_
    try simp only [Act.put, List.setIfInBounds_toArray, List.set_cons_zero, List.set_cons_succ]
    refine wpAnyH_take (i := 7) (oi := { dst := some 105, op := Op.fieldAddr 44 (Operand.tmp 3) 5, type := 0, pos := "ref.go:96", after := #[], guard := none }) (v := Value.pointer (some ⟨b, 5, none⟩)) rfl (by kernel_rfl) (by kernel_rfl) (by kernel_rfl) (fun _ _ _ h => nomatch h.1) (Or.inl ⟨rfl, fun _ _ => by kernel_rfl⟩) hS ?_
    try simp only [Act.put, List.setIfInBounds_toArray, List.set_cons_zero, List.set_cons_succ]
    refine wpAnyH_take (i := 8) (oi := { dst := some 106, op := Op.load 25 (Operand.tmp 105), type := 25, pos := "ref.go:96", after := #[{ on := 7, ground := Ground.data }], guard := none }) (v := Value.int .u64 f.s) rfl (by kernel_rfl) (by kernel_rfl) (by kernel_rfl) (fun _ _ _ h => nomatch h.1) (Or.inl ⟨rfl, fun w hSw => by have z := cell_of_blk hSw.1 (i := 5) (v := .int .u64 f.s) k5; go_simp⟩) hS ?_
    try simp only [Act.put, List.setIfInBounds_toArray, List.set_cons_zero, List.set_cons_succ]
    refine wpAnyH_ready (rs := [9, 14]) (by kernel_rfl) (by simp) ?_
    refine AllReadyH.cons (o := { dst := some 107, op := Op.call { callee := Callee.value (Operand.func 37), args := #[Operand.tmp 106], argTypes := #[25] }, type := 25, pos := "ref.go:96", after := #[{ on := 8, ground := Ground.data }], guard := none }) rfl (fun K hK => ?_) ?_
    · rw [if_pos (by rfl)]
      refine wp_calls 37 #[.int .u64 f.s] (by kernel_rfl) (fun v V => v = .int .u64 P ∧ Kept [] W1 V) ((HPl.out _).mono fun e w' hh => ⟨_, hh.1, rfl, hh.2⟩) ?_
      rintro _ x1 ⟨rfl, K1⟩
      have q2 := Q1.new K1
      try simp only [Act.put, List.setIfInBounds_toArray, List.set_cons_zero, List.set_cons_succ]
      refine hK.out _ _ (⟨q2.r.f, q2.r.m⟩) (fun hS => ?_)
      clear hK K
      refine wpAnyH_ready (rs := [10, 14]) (by kernel_rfl) (by simp) ?_
      refine AllReadyH.cons (o := { dst := some 108, op := Op.call { callee := Callee.value (Operand.func 68), args := #[Operand.tmp 98, Operand.tmp 100, Operand.tmp 102, Operand.tmp 104, Operand.tmp 107], argTypes := #[35, 25, 3, 25, 25] }, type := 137, pos := "ref.go:96", after := #[{ on := 0, ground := Ground.data }, { on := 2, ground := Ground.data }, { on := 4, ground := Ground.data }, { on := 6, ground := Ground.data }, { on := 9, ground := Ground.data }, { on := 9, ground := Ground.chain }], guard := none }) rfl (fun K hK => ?_) ?_
      · rw [if_pos (by rfl)]
        refine wp_calls 68 #[.agg M, .int .u64 f.pr, .int .i64 (IntKind.i64.wrap (6 + (c.h - 1 - (f.dn : Int)))), .int .u64 f.x, .int .u64 P] (by kernel_rfl) (fun v V => ∃ B, v = .tuple #[.agg B, .bool st] ∧ Wv x1 g c n CC (cnt + 1) AC B V ∧ Kept [] x1 V) ((HC.out _ q2.r.k).mono fun e w' ⟨B, h1, h2, h3⟩ => ⟨_, h1, B, rfl, h2, h3⟩) ?_
        rintro _ x3 ⟨B, rfl, V3, K3⟩
        have v3 := V3.old (w := w) q2.r.k.size
        have q4 := q2.new K3
        try simp only [Act.put, List.setIfInBounds_toArray, List.set_cons_zero, List.set_cons_succ]
        refine hK.out _ _ (⟨q4.r.f, q4.r.m⟩) (fun hS => ?_)
        clear hK K
        refine wpAnyH_take (i := 11) (oi := { dst := some 97, op := Op.move (Operand.tmp 108), type := 137, pos := "ref.go:96", after := #[{ on := 10, ground := Ground.data }], guard := none }) (v := Value.tuple #[.agg B, .bool st]) rfl (by kernel_rfl) (by kernel_rfl) (by kernel_rfl) (fun _ _ _ h => nomatch h.1) (Or.inl ⟨rfl, fun _ _ => by kernel_rfl⟩) hS ?_
        try simp only [Act.put, List.setIfInBounds_toArray, List.set_cons_zero, List.set_cons_succ]
        refine wpAnyH_take (i := 12) (oi := { dst := some 109, op := Op.extract (Operand.tmp 97) 0, type := 35, pos := "ref.go:96", after := #[{ on := 11, ground := Ground.data }], guard := none }) (v := Value.agg B) rfl (by kernel_rfl) (by kernel_rfl) (by kernel_rfl) (fun _ _ _ h => nomatch h.1) (Or.inl ⟨rfl, fun _ _ => by kernel_rfl⟩) hS ?_
        try simp only [Act.put, List.setIfInBounds_toArray, List.set_cons_zero, List.set_cons_succ]
        refine wpAnyH_take (i := 13) (oi := { dst := some 110, op := Op.extract (Operand.tmp 97) 1, type := 4, pos := "ref.go:96", after := #[{ on := 11, ground := Ground.data }, { on := 15, ground := Ground.gcOnly Departure.lateStores }], guard := none }) (v := Value.bool st) rfl (by kernel_rfl) (by kernel_rfl) (by kernel_rfl) (fun _ _ _ h => nomatch h.1) (Or.inl ⟨rfl, fun _ _ => by kernel_rfl⟩) hS ?_
        try simp only [Act.put, List.setIfInBounds_toArray, List.set_cons_zero, List.set_cons_succ]
        refine wpAnyH_ready (rs := [14]) (by kernel_rfl) (by simp) ?_
        refine AllReadyH.cons (o := { dst := some 18, op := Op.alloc 35, type := 0, pos := "ref.go:96", after := #[], guard := none }) rfl (fun K hK => ?_) AllReadyH.nil
        rw [if_pos (by rfl)]
        refine wp_alloc_any 35 rmZ (by kernel_rfl) ?_
        intro d x5 D5 l5 K5
        have hd1 : b + 1 + 1 + 1 + 1 + 1 < d := by have := q4.r.z.lt; omega
        have q6 := q4.new K5
        have v6 := v3.new K5
        try simp only [Act.put, List.setIfInBounds_toArray, List.set_cons_zero, List.set_cons_succ]
        refine hK.out _ _ (⟨q6.r.f, q6.r.m⟩) (fun hS => ?_)
        clear hK K
        refine wpAnyH_ready (rs := [15]) (by kernel_rfl) (by simp) ?_
        refine AllReadyH.cons (o := { dst := none, op := Op.store 35 (Operand.tmp 18) (Operand.tmp 109), type := 0, pos := "ref.go:96", after := #[{ on := 14, ground := Ground.data }, { on := 12, ground := Ground.data }, { on := 10, ground := Ground.chain }, { on := 0, ground := Ground.phase }, { on := 1, ground := Ground.phase }, { on := 2, ground := Ground.phase }, { on := 3, ground := Ground.phase }, { on := 4, ground := Ground.phase }, { on := 5, ground := Ground.phase }, { on := 6, ground := Ground.phase }, { on := 7, ground := Ground.phase }, { on := 8, ground := Ground.phase }, { on := 9, ground := Ground.phase }, { on := 10, ground := Ground.phase }, { on := 11, ground := Ground.phase }, { on := 12, ground := Ground.phase }, { on := 13, ground := Ground.textOnly Departure.lateStores }, { on := 14, ground := Ground.phase }], guard := none }) rfl (fun K hK => ?_) AllReadyH.nil
        rw [if_pos (by rfl)]
        have sB := v6.size
        have oB := v6.allOne
        refine wp_store_row 35 (.tmp 18) (.tmp 109) rfl d B rfl rfl 35 rmZ D5 (by rw [isT_rm.1, sB]) (by rw [sB]; rfl) oB ?_
        simp only [Act.put]
        refine hK.out _ _ (⟨q6.r.f.rowOther B (c := d) (by omega), q6.r.m.rowOther B (c := d) (by omega)⟩) (fun hS => ?_)
        clear hK K
        refine wpAnyH_take (i := 16) (oi := { dst := some 19, op := Op.assign (Operand.tmp 110), type := 4, pos := "ref.go:96", after := #[{ on := 13, ground := Ground.data }, { on := 15, ground := Ground.chain }, { on := 0, ground := Ground.phase }, { on := 1, ground := Ground.phase }, { on := 2, ground := Ground.phase }, { on := 3, ground := Ground.phase }, { on := 4, ground := Ground.phase }, { on := 5, ground := Ground.phase }, { on := 6, ground := Ground.phase }, { on := 7, ground := Ground.phase }, { on := 8, ground := Ground.phase }, { on := 9, ground := Ground.phase }, { on := 10, ground := Ground.phase }, { on := 11, ground := Ground.phase }, { on := 12, ground := Ground.phase }, { on := 13, ground := Ground.phase }, { on := 14, ground := Ground.phase }, { on := 15, ground := Ground.phase }], guard := none }) (v := Value.bool st) rfl (by kernel_rfl) (by kernel_rfl) (by kernel_rfl) (fun _ _ _ h => nomatch h.1) (Or.inl ⟨rfl, fun _ _ => by kernel_rfl⟩) hS ?_
        try simp only [Act.put, List.setIfInBounds_toArray, List.set_cons_zero, List.set_cons_succ]
        refine wpAnyH_done (by kernel_rfl) ?_ _
        have DF := D5.row B
        have kd := k_row x5 d B
        have Q4 : Q6 w (x5.setRow d B) b base g c n f cs cnt a A M (rgA gs) := q6.far D5 (by decide) (by omega) B
        have W4 := v6.one D5 (by decide) kd
        exact ⟨rfl, d, B, rfl, DF, Q4, W4⟩
      refine AllReadyH.cons (o := { dst := some 18, op := Op.alloc 35, type := 0, pos := "ref.go:96", after := #[], guard := none }) rfl (fun K hK => ?_) AllReadyH.nil
      rw [if_pos (by rfl)]
      refine wp_alloc_any 35 rmZ (by kernel_rfl) ?_
      intro d x7 D7 l7 K7
      have hd1 : b + 1 + 1 + 1 + 1 + 1 < d := by have := q2.r.z.lt; omega
      have q8 := q2.new K7
      try simp only [Act.put, List.setIfInBounds_toArray, List.set_cons_zero, List.set_cons_succ]
      refine hK.out _ _ (⟨q8.r.f, q8.r.m⟩) (fun hS => ?_)
      clear hK K
      refine wpAnyH_ready (rs := [10]) (by kernel_rfl) (by simp) ?_
      refine AllReadyH.cons (o := { dst := some 108, op := Op.call { callee := Callee.value (Operand.func 68), args := #[Operand.tmp 98, Operand.tmp 100, Operand.tmp 102, Operand.tmp 104, Operand.tmp 107], argTypes := #[35, 25, 3, 25, 25] }, type := 137, pos := "ref.go:96", after := #[{ on := 0, ground := Ground.data }, { on := 2, ground := Ground.data }, { on := 4, ground := Ground.data }, { on := 6, ground := Ground.data }, { on := 9, ground := Ground.data }, { on := 9, ground := Ground.chain }], guard := none }) rfl (fun K hK => ?_) AllReadyH.nil
      rw [if_pos (by rfl)]
      refine wp_calls 68 #[.agg M, .int .u64 f.pr, .int .i64 (IntKind.i64.wrap (6 + (c.h - 1 - (f.dn : Int)))), .int .u64 f.x, .int .u64 P] (by kernel_rfl) (fun v V => ∃ B, v = .tuple #[.agg B, .bool st] ∧ Wv x7 g c n CC (cnt + 1) AC B V ∧ Kept [] x7 V) ((HC.out _ q8.r.k).mono fun e w' ⟨B, h1, h2, h3⟩ => ⟨_, h1, B, rfl, h2, h3⟩) ?_
      rintro _ x9 ⟨B, rfl, V9, K9⟩
      have v9 := V9.old (w := w) q8.r.k.size
      have q10 := q8.new K9
      have D10 := D7.kept K9 (by simp)
      try simp only [Act.put, List.setIfInBounds_toArray, List.set_cons_zero, List.set_cons_succ]
      refine hK.out _ _ (⟨q10.r.f, q10.r.m⟩) (fun hS => ?_)
      clear hK K
      refine wpAnyH_take (i := 11) (oi := { dst := some 97, op := Op.move (Operand.tmp 108), type := 137, pos := "ref.go:96", after := #[{ on := 10, ground := Ground.data }], guard := none }) (v := Value.tuple #[.agg B, .bool st]) rfl (by kernel_rfl) (by kernel_rfl) (by kernel_rfl) (fun _ _ _ h => nomatch h.1) (Or.inl ⟨rfl, fun _ _ => by kernel_rfl⟩) hS ?_
      try simp only [Act.put, List.setIfInBounds_toArray, List.set_cons_zero, List.set_cons_succ]
      refine wpAnyH_take (i := 12) (oi := { dst := some 109, op := Op.extract (Operand.tmp 97) 0, type := 35, pos := "ref.go:96", after := #[{ on := 11, ground := Ground.data }], guard := none }) (v := Value.agg B) rfl (by kernel_rfl) (by kernel_rfl) (by kernel_rfl) (fun _ _ _ h => nomatch h.1) (Or.inl ⟨rfl, fun _ _ => by kernel_rfl⟩) hS ?_
      try simp only [Act.put, List.setIfInBounds_toArray, List.set_cons_zero, List.set_cons_succ]
      refine wpAnyH_take (i := 13) (oi := { dst := some 110, op := Op.extract (Operand.tmp 97) 1, type := 4, pos := "ref.go:96", after := #[{ on := 11, ground := Ground.data }, { on := 15, ground := Ground.gcOnly Departure.lateStores }], guard := none }) (v := Value.bool st) rfl (by kernel_rfl) (by kernel_rfl) (by kernel_rfl) (fun _ _ _ h => nomatch h.1) (Or.inl ⟨rfl, fun _ _ => by kernel_rfl⟩) hS ?_
      try simp only [Act.put, List.setIfInBounds_toArray, List.set_cons_zero, List.set_cons_succ]
      refine wpAnyH_ready (rs := [15]) (by kernel_rfl) (by simp) ?_
      refine AllReadyH.cons (o := { dst := none, op := Op.store 35 (Operand.tmp 18) (Operand.tmp 109), type := 0, pos := "ref.go:96", after := #[{ on := 14, ground := Ground.data }, { on := 12, ground := Ground.data }, { on := 10, ground := Ground.chain }, { on := 0, ground := Ground.phase }, { on := 1, ground := Ground.phase }, { on := 2, ground := Ground.phase }, { on := 3, ground := Ground.phase }, { on := 4, ground := Ground.phase }, { on := 5, ground := Ground.phase }, { on := 6, ground := Ground.phase }, { on := 7, ground := Ground.phase }, { on := 8, ground := Ground.phase }, { on := 9, ground := Ground.phase }, { on := 10, ground := Ground.phase }, { on := 11, ground := Ground.phase }, { on := 12, ground := Ground.phase }, { on := 13, ground := Ground.textOnly Departure.lateStores }, { on := 14, ground := Ground.phase }], guard := none }) rfl (fun K hK => ?_) AllReadyH.nil
      rw [if_pos (by rfl)]
      have sB := v9.size
      have oB := v9.allOne
      refine wp_store_row 35 (.tmp 18) (.tmp 109) rfl d B rfl rfl 35 rmZ D10 (by rw [isT_rm.1, sB]) (by rw [sB]; rfl) oB ?_
      simp only [Act.put]
      refine hK.out _ _ (⟨q10.r.f.rowOther B (c := d) (by omega), q10.r.m.rowOther B (c := d) (by omega)⟩) (fun hS => ?_)
      clear hK K
      refine wpAnyH_take (i := 16) (oi := { dst := some 19, op := Op.assign (Operand.tmp 110), type := 4, pos := "ref.go:96", after := #[{ on := 13, ground := Ground.data }, { on := 15, ground := Ground.chain }, { on := 0, ground := Ground.phase }, { on := 1, ground := Ground.phase }, { on := 2, ground := Ground.phase }, { on := 3, ground := Ground.phase }, { on := 4, ground := Ground.phase }, { on := 5, ground := Ground.phase }, { on := 6, ground := Ground.phase }, { on := 7, ground := Ground.phase }, { on := 8, ground := Ground.phase }, { on := 9, ground := Ground.phase }, { on := 10, ground := Ground.phase }, { on := 11, ground := Ground.phase }, { on := 12, ground := Ground.phase }, { on := 13, ground := Ground.phase }, { on := 14, ground := Ground.phase }, { on := 15, ground := Ground.phase }], guard := none }) (v := Value.bool st) rfl (by kernel_rfl) (by kernel_rfl) (by kernel_rfl) (fun _ _ _ h => nomatch h.1) (Or.inl ⟨rfl, fun _ _ => by kernel_rfl⟩) hS ?_
      try simp only [Act.put, List.setIfInBounds_toArray, List.set_cons_zero, List.set_cons_succ]
      refine wpAnyH_done (by kernel_rfl) ?_ _
      have DF := D10.row B
      have kd := k_row x9 d B
      have Q4 : Q6 w (x9.setRow d B) b base g c n f cs cnt a A M (rgA gs) := q10.far D10 (by decide) (by omega) B
      have W4 := v9.one D10 (by decide) kd
      exact ⟨rfl, d, B, rfl, DF, Q4, W4⟩
    refine AllReadyH.cons (o := { dst := some 18, op := Op.alloc 35, type := 0, pos := "ref.go:96", after := #[], guard := none }) rfl (fun K hK => ?_) AllReadyH.nil
    rw [if_pos (by rfl)]
    refine wp_alloc_any 35 rmZ (by kernel_rfl) ?_
    intro d x11 D11 l11 K11
    have hd1 : b + 1 + 1 + 1 + 1 + 1 < d := by have := Q1.r.z.lt; omega
    have q12 := Q1.new K11
    try simp only [Act.put, List.setIfInBounds_toArray, List.set_cons_zero, List.set_cons_succ]
    refine hK.out _ _ (⟨q12.r.f, q12.r.m⟩) (fun hS => ?_)
    clear hK K
    refine wpAnyH_ready (rs := [9]) (by kernel_rfl) (by simp) ?_
    refine AllReadyH.cons (o := { dst := some 107, op := Op.call { callee := Callee.value (Operand.func 37), args := #[Operand.tmp 106], argTypes := #[25] }, type := 25, pos := "ref.go:96", after := #[{ on := 8, ground := Ground.data }], guard := none }) rfl (fun K hK => ?_) AllReadyH.nil
    rw [if_pos (by rfl)]
    refine wp_calls 37 #[.int .u64 f.s] (by kernel_rfl) (fun v V => v = .int .u64 P ∧ Kept [] x11 V) ((HPl.out _).mono fun e w' hh => ⟨_, hh.1, rfl, hh.2⟩) ?_
    rintro _ x13 ⟨rfl, K13⟩
    have q14 := q12.new K13
    have D14 := D11.kept K13 (by simp)
    try simp only [Act.put, List.setIfInBounds_toArray, List.set_cons_zero, List.set_cons_succ]
    refine hK.out _ _ (⟨q14.r.f, q14.r.m⟩) (fun hS => ?_)
    clear hK K
    refine wpAnyH_ready (rs := [10]) (by kernel_rfl) (by simp) ?_
    refine AllReadyH.cons (o := { dst := some 108, op := Op.call { callee := Callee.value (Operand.func 68), args := #[Operand.tmp 98, Operand.tmp 100, Operand.tmp 102, Operand.tmp 104, Operand.tmp 107], argTypes := #[35, 25, 3, 25, 25] }, type := 137, pos := "ref.go:96", after := #[{ on := 0, ground := Ground.data }, { on := 2, ground := Ground.data }, { on := 4, ground := Ground.data }, { on := 6, ground := Ground.data }, { on := 9, ground := Ground.data }, { on := 9, ground := Ground.chain }], guard := none }) rfl (fun K hK => ?_) AllReadyH.nil
    rw [if_pos (by rfl)]
    refine wp_calls 68 #[.agg M, .int .u64 f.pr, .int .i64 (IntKind.i64.wrap (6 + (c.h - 1 - (f.dn : Int)))), .int .u64 f.x, .int .u64 P] (by kernel_rfl) (fun v V => ∃ B, v = .tuple #[.agg B, .bool st] ∧ Wv x13 g c n CC (cnt + 1) AC B V ∧ Kept [] x13 V) ((HC.out _ q14.r.k).mono fun e w' ⟨B, h1, h2, h3⟩ => ⟨_, h1, B, rfl, h2, h3⟩) ?_
    rintro _ x15 ⟨B, rfl, V15, K15⟩
    have v15 := V15.old (w := w) q14.r.k.size
    have q16 := q14.new K15
    have D16 := D14.kept K15 (by simp)
    try simp only [Act.put, List.setIfInBounds_toArray, List.set_cons_zero, List.set_cons_succ]
    refine hK.out _ _ (⟨q16.r.f, q16.r.m⟩) (fun hS => ?_)
    clear hK K
    refine wpAnyH_take (i := 11) (oi := { dst := some 97, op := Op.move (Operand.tmp 108), type := 137, pos := "ref.go:96", after := #[{ on := 10, ground := Ground.data }], guard := none }) (v := Value.tuple #[.agg B, .bool st]) rfl (by kernel_rfl) (by kernel_rfl) (by kernel_rfl) (fun _ _ _ h => nomatch h.1) (Or.inl ⟨rfl, fun _ _ => by kernel_rfl⟩) hS ?_
    try simp only [Act.put, List.setIfInBounds_toArray, List.set_cons_zero, List.set_cons_succ]
    refine wpAnyH_take (i := 12) (oi := { dst := some 109, op := Op.extract (Operand.tmp 97) 0, type := 35, pos := "ref.go:96", after := #[{ on := 11, ground := Ground.data }], guard := none }) (v := Value.agg B) rfl (by kernel_rfl) (by kernel_rfl) (by kernel_rfl) (fun _ _ _ h => nomatch h.1) (Or.inl ⟨rfl, fun _ _ => by kernel_rfl⟩) hS ?_
    try simp only [Act.put, List.setIfInBounds_toArray, List.set_cons_zero, List.set_cons_succ]
    refine wpAnyH_take (i := 13) (oi := { dst := some 110, op := Op.extract (Operand.tmp 97) 1, type := 4, pos := "ref.go:96", after := #[{ on := 11, ground := Ground.data }, { on := 15, ground := Ground.gcOnly Departure.lateStores }], guard := none }) (v := Value.bool st) rfl (by kernel_rfl) (by kernel_rfl) (by kernel_rfl) (fun _ _ _ h => nomatch h.1) (Or.inl ⟨rfl, fun _ _ => by kernel_rfl⟩) hS ?_
    try simp only [Act.put, List.setIfInBounds_toArray, List.set_cons_zero, List.set_cons_succ]
    refine wpAnyH_ready (rs := [15]) (by kernel_rfl) (by simp) ?_
    refine AllReadyH.cons (o := { dst := none, op := Op.store 35 (Operand.tmp 18) (Operand.tmp 109), type := 0, pos := "ref.go:96", after := #[{ on := 14, ground := Ground.data }, { on := 12, ground := Ground.data }, { on := 10, ground := Ground.chain }, { on := 0, ground := Ground.phase }, { on := 1, ground := Ground.phase }, { on := 2, ground := Ground.phase }, { on := 3, ground := Ground.phase }, { on := 4, ground := Ground.phase }, { on := 5, ground := Ground.phase }, { on := 6, ground := Ground.phase }, { on := 7, ground := Ground.phase }, { on := 8, ground := Ground.phase }, { on := 9, ground := Ground.phase }, { on := 10, ground := Ground.phase }, { on := 11, ground := Ground.phase }, { on := 12, ground := Ground.phase }, { on := 13, ground := Ground.textOnly Departure.lateStores }, { on := 14, ground := Ground.phase }], guard := none }) rfl (fun K hK => ?_) AllReadyH.nil
    rw [if_pos (by rfl)]
    have sB := v15.size
    have oB := v15.allOne
    refine wp_store_row 35 (.tmp 18) (.tmp 109) rfl d B rfl rfl 35 rmZ D16 (by rw [isT_rm.1, sB]) (by rw [sB]; rfl) oB ?_
    simp only [Act.put]
    refine hK.out _ _ (⟨q16.r.f.rowOther B (c := d) (by omega), q16.r.m.rowOther B (c := d) (by omega)⟩) (fun hS => ?_)
    clear hK K
    refine wpAnyH_take (i := 16) (oi := { dst := some 19, op := Op.assign (Operand.tmp 110), type := 4, pos := "ref.go:96", after := #[{ on := 13, ground := Ground.data }, { on := 15, ground := Ground.chain }, { on := 0, ground := Ground.phase }, { on := 1, ground := Ground.phase }, { on := 2, ground := Ground.phase }, { on := 3, ground := Ground.phase }, { on := 4, ground := Ground.phase }, { on := 5, ground := Ground.phase }, { on := 6, ground := Ground.phase }, { on := 7, ground := Ground.phase }, { on := 8, ground := Ground.phase }, { on := 9, ground := Ground.phase }, { on := 10, ground := Ground.phase }, { on := 11, ground := Ground.phase }, { on := 12, ground := Ground.phase }, { on := 13, ground := Ground.phase }, { on := 14, ground := Ground.phase }, { on := 15, ground := Ground.phase }], guard := none }) (v := Value.bool st) rfl (by kernel_rfl) (by kernel_rfl) (by kernel_rfl) (fun _ _ _ h => nomatch h.1) (Or.inl ⟨rfl, fun _ _ => by kernel_rfl⟩) hS ?_
    try simp only [Act.put, List.setIfInBounds_toArray, List.set_cons_zero, List.set_cons_succ]
    refine wpAnyH_done (by kernel_rfl) ?_ _
    have DF := D16.row B
    have kd := k_row x15 d B
    have Q4 : Q6 w (x15.setRow d B) b base g c n f cs cnt a A M (rgA gs) := q16.far D16 (by decide) (by omega) B
    have W4 := v15.one D16 (by decide) kd
    exact ⟨rfl, d, B, rfl, DF, Q4, W4⟩
  · rintro a' W1 ⟨d, B, rfl, D0, Q2, W2⟩
    simp only [Act.put, List.setIfInBounds_toArray, List.set_cons_zero, List.set_cons_succ]
    have sB := W2.size
    have oB := W2.allOne
    have QM := Q2.r.m
    have HQ3 := hidOf (Q6.ofM Q2.r Q2.f W2)
    clear Q2 W2 HQ Q1
    go_upto_region 31 with (first
      | ((with_reducible change wpList _ _ _ (Oper.mk _ (Op.load 35 (Operand.tmp 18)) _ _ _ _ :: _) _ _); refine wpList_load_rw 35 isT_rm rfl (.tmp 18) rfl d rfl B sB D0 ?_)
      | ((with_reducible change wpList _ _ _ (Oper.mk _ (Op.store 35 (Operand.tmp 4) _) _ _ _ _ :: _) _ _); refine wpList_store_rw 35 isT_rm rfl (.tmp 4) (.tmp 111) rfl (b + 1) B rfl rfl sB oB M QM hM15 ?_))
    refine gen_world (fun V => Q6 w V b base g c n f CC (cnt + 1) AC A B (rgA gs)) HQ3.out ?_
    clear HQ3 D0 QM
    rintro W2 Q3
    have p1 := cell_of_blk Q3.r.f (i := 1) k1'
    have hf := free_of_blk Q3.r.f
    have HQ4 := hidOf (Q3.nx 0)
    clear Q3
    cases st with
    | true =>
      go_upto_region 41 with (fail)
      refine gen_world (fun V => Q6 w V b base g c n { f with nx := 0 } CC (cnt + 1) AC _ B (rgA gs)) HQ4.out ?_
      clear HQ4 p1 hf
      rintro W4 Q4
      generalize A.setIfInBounds 1 (.int .i64 ((0 : Nat) : Int)) = X at Q4 ⊢
      go_upto_region 41 with (fail)
      refine wp_ret3 isT_rf isT_rm isT_rg (by kernel_rfl) (by kernel_rfl) (by kernel_rfl) (fun _ _ _ _ _ h => h) b (b + 1) (b + 1 + 1) (b + 1 + 1 + 1) (b + 1 + 1 + 1 + 1) (b + 1 + 1 + 1 + 1 + 1) X B (rgA gs) rfZ rmZ rgZ Q4.f.size Q4.v.size rfl Q4.f.one Q4.v.allOne (rg_one _) rfl rfl rfl Q4.r.f Q4.r.m Q4.r.g Q4.r.x Q4.r.y Q4.r.z (by omega) (by omega) (by omega) (by omega) rfl rfl rfl rfl rfl rfl rfl rfl rfl ?_
      simp only [Act.put, List.setIfInBounds_toArray, List.set_cons_zero, List.set_cons_succ]
      have EE := Q4.ret
      have sx := Q4.f.size
      have sm := Q4.v.size
      go_wp2
      refine bodyPost_ret (v := .tuple #[.agg X, .agg B, .agg (rgA gs)]) (results_rw3 Tryz.results34 isT_rf isT_rm isT_rg _ _ (b + 1 + 1 + 1) (b + 1 + 1 + 1 + 1) (b + 1 + 1 + 1 + 1 + 1) X B (rgA gs) sx sm rfl rfl rfl rfl EE.x EE.y EE.z) rfl ⟨_, _, rfl, (by rw [HQf.out, if_pos trivial]; exact EE.f), EE.v, EE.k⟩
    | false =>
      go_upto_region 33 with (fail)
      refine gen_world (fun V => Q6 w V b base g c n { f with nx := 0 } CC (cnt + 1) AC _ B (rgA gs)) HQ4.out ?_
      clear HQ4 p1 hf
      rintro W4 Q4
      generalize A.setIfInBounds 1 (.int .i64 ((0 : Nat) : Int)) = X at Q4 ⊢
      have F4 := Q4.r.f
      have s4 := Q4.f.size
      go_wp2_with (first
          | ((with_reducible change wpList _ _ _ (Oper.mk _ (Op.load 44 (Operand.tmp 3)) _ _ _ _ :: _) _ _); refine wpList_load_rw 44 isT_rf rfl (.tmp 3) rfl b rfl X s4 F4 ?_))
      refine (rfanewA Q4.f).mono ?_
      rintro e w5 ⟨rfl, K5⟩
      have Q5 := Q4.new K5
      have F5 := Q5.r.f
      have RA := RF.anew base w5 f f.at_
      obtain ⟨Y, hY⟩ : ∃ Y, Y = rfA (f.anew f.at_) none 0 0 none 0 0 none 0 0 := ⟨_, rfl⟩
      have hY2 : rfA (Fm.anew { f with nx := 0 } ({ f with nx := 0 } : Fm).at_) none 0 0 none 0 0 none 0 0 = Y := by rw [hY]; rfl
      rw [← hY] at RA
      rw [hY2]
      have sY := RA.size
      have oY := RA.one
      have HQ5 := hidOf (Q5.setF RA)
      clear Q4 Q5 F4 hY hY2 RA K5
      go_upto_region 41 with (first
          | ((with_reducible change wpList _ _ _ (Oper.mk _ (Op.store 44 (Operand.tmp 3) _) _ _ _ _ :: _) _ _); refine wpList_store_rw 44 isT_rf rfl (.tmp 3) (.tmp 116) rfl b Y rfl rfl sY oY X F5 s4 ?_))
      refine gen_world (fun V => Q6 w V b base g c n (f.anew f.at_) CC (cnt + 1) AC Y B (rgA gs)) HQ5.out ?_
      clear HQ5 F5
      rintro W6 Q6'
      go_upto_region 41 with (fail)
      refine wp_ret3 isT_rf isT_rm isT_rg (by kernel_rfl) (by kernel_rfl) (by kernel_rfl) (fun _ _ _ _ _ h => h) b (b + 1) (b + 1 + 1) (b + 1 + 1 + 1) (b + 1 + 1 + 1 + 1) (b + 1 + 1 + 1 + 1 + 1) Y B (rgA gs) rfZ rmZ rgZ Q6'.f.size Q6'.v.size rfl Q6'.f.one Q6'.v.allOne (rg_one _) rfl rfl rfl Q6'.r.f Q6'.r.m Q6'.r.g Q6'.r.x Q6'.r.y Q6'.r.z (by omega) (by omega) (by omega) (by omega) rfl rfl rfl rfl rfl rfl rfl rfl rfl ?_
      simp only [Act.put, List.setIfInBounds_toArray, List.set_cons_zero, List.set_cons_succ]
      have EE := Q6'.ret
      have sx := Q6'.f.size
      have sm := Q6'.v.size
      go_wp2
      refine bodyPost_ret (v := .tuple #[.agg Y, .agg B, .agg (rgA gs)]) (results_rw3 Tryz.results34 isT_rf isT_rm isT_rg _ _ (b + 1 + 1 + 1) (b + 1 + 1 + 1 + 1) (b + 1 + 1 + 1 + 1 + 1) Y B (rgA gs) sx sm rfl rfl rfl rfl EE.x EE.y EE.z) rfl ⟨_, _, rfl, (by rw [HQf.out, if_neg (by decide)]; exact EE.f), EE.v, EE.k⟩
/-- Any step of the document's find. -/
theorem rfstep_any {base g : Nat} {c : Cfg} {f : Fm} {A : Array Value} {gs : Gs} {cs : List Int} {cap : Nat} {cnt : Int} {w : World} (a : Acc) (S : SQ base w g c f A gs cs cap cnt) :
    Calls Tryz.prog 34 #[.agg A, .agg (rmA c (some ⟨g, 0, none⟩) cs.length cap cnt a), .agg (rgA gs)] w fun e w' => ∃ X B, e = .returned (.tuple #[.agg X, .agg B, .agg (rgA (fG c gs f))]) ∧ RF base w' (fF c cs cnt gs f) X ∧ Wv w g c cs.length (fC c cs gs f) (fN cnt f) (fA c cs gs f a) B w' ∧ Kept [] w w' := by
  by_cases hd : f.d = true
  · obtain ⟨e1, e2, e3⟩ := fF_done (c := c) (cs := cs) (cnt := cnt) (g := gs) hd
    have e4 : fN cnt f = cnt := if_pos hd
    have e5 : fA c cs gs f a = a := if_pos hd
    rw [e1, e2, e3, e4, e5]
    exact rfsd_any a S hd
  · have hd' : f.d = false := by simpa using hd
    have e4 : fN cnt f = cnt + 1 := if_neg hd
    have eC : f.nx ≠ 2 → f.nx ≠ 4 → fC c cs gs f = cs := fun h2 h4 => by unfold fC; rw [if_neg hd, if_neg h2, if_neg h4]
    have eG : f.nx ≠ 2 → fG c gs f = gs := fun h2 => by unfold fG; rw [if_neg hd, if_neg h2]
    rw [e4]
    rcases (by have := S.fi.nx; omega : f.nx = 0 ∨ f.nx = 1 ∨ f.nx = 2 ∨ f.nx = 3 ∨ f.nx = 4 ∨ f.nx = 5) with e | e | e | e | e | e
    · have eF : fF c cs cnt gs f = if mkB (rdW c cs f) = true then f.anew (atF c cnt f) else if vlB (rdW c cs f) = false then f.ended c (atF c cnt f) 0 0 else { f with x := rdW c cs f, nx := 1, at_ := atF c cnt f } := by unfold fF; rw [if_neg hd, e]; rfl
      have eA : fA c cs gs f a = acV cs 1 (clV' c (ixV f.pr) (6 + lv c f)) (plainV f.pr) 0 0 := by unfold fA; rw [if_neg hd, e]; rfl
      rw [eF, eC (by omega) (by omega), eG (by omega), eA]
      exact rfs0_any a S hd' e
    · have eF : fF c cs cnt gs f = { f with era := rdG cs 0, nx := if rdG cs 0 = gs.l then 3 else 2 } := by unfold fF; rw [if_neg hd, e]; rfl
      have eA : fA c cs gs f a = acV cs 1 0 0 0 0 := by unfold fA; rw [if_neg hd, e]; rfl
      rw [eF, eC (by omega) (by omega), eG (by omega), eA]
      exact rfs1_any a S hd' e
    · have eF : fF c cs cnt gs f = if gs.u < c.s then { f with nx := 0 } else f.anew f.at_ := by unfold fF; rw [if_neg hd, e]; rfl
      have eA : fA c cs gs f a = acV cs 2 (rsV c gs.t (pubN c gs)) 0 0 f.era := by unfold fA; rw [if_neg hd, e]; rfl
      have eC2 : fC c cs gs f = clV cs 2 (rsV c gs.t (pubN c gs)) 0 f.era := by unfold fC; rw [if_neg hd, if_pos e]
      have eG2 : fG c gs f = pubG c gs f.era := by unfold fG; rw [if_neg hd, if_pos e]
      rw [eF, eC2, eG2, eA]
      exact rfs2_any a S hd' e
    · have eF : fF c cs cnt gs f = { f with s := fd c cs (ixV f.x) (6 + lv c f), nx := if mkB (fd c cs (ixV f.x) (6 + lv c f)) = true then 4 else 5 } := by unfold fF; rw [if_neg hd, e]; rfl
      have eA : fA c cs gs f a = acV cs 1 (clV' c (ixV f.x) (6 + lv c f)) (plainV f.x) 0 0 := by unfold fA; rw [if_neg hd, e]; rfl
      rw [eF, eC (by omega) (by omega), eG (by omega), eA]
      exact rfs3_any a S hd' e
    · have eF : fF c cs cnt gs f = if (acV cs 3 (clV' c (ixV f.pr) (6 + lv c f)) (plainV f.pr) f.x (plainV f.s)).d = true then { f with nx := 0 } else f.anew f.at_ := by unfold fF; rw [if_neg hd, e]; rfl
      have eA : fA c cs gs f a = acV cs 3 (clV' c (ixV f.pr) (6 + lv c f)) (plainV f.pr) f.x (plainV f.s) := by unfold fA; rw [if_neg hd, e]; rfl
      have eC2 : fC c cs gs f = clV cs 3 (clV' c (ixV f.pr) (6 + lv c f)) f.x (plainV f.s) := by unfold fC; rw [if_neg hd, if_neg (by omega), if_pos e]
      rw [eF, eC2, eG (by omega), eA]
      exact rfs4_any a S hd' e
    · have eF : fF c cs cnt gs f = if f.k ≤ fd c cs (ixV f.x) 1 then f.ended c f.at_ f.x (fd c cs (ixV f.x) 1) else { f with pr := f.x, nx := 0 } := by unfold fF; rw [if_neg hd, e]; rfl
      have eA : fA c cs gs f a = acV cs 1 (clV' c (ixV f.x) 1) (plainV f.x) 0 0 := by unfold fA; rw [if_neg hd, e]; rfl
      rw [eF, eC (by omega) (by omega), eG (by omega), eA]
      exact rfs5_any a S hd' e
end K
end Go.Proofs.YtgafmklfpiipcaaGreatDoor
