/-
  Ops one behind the other, each with what the map tells: what lies where in a round.
-/
import Derived.Test.YtlmkcakmeldfeaaHTurnM
import Derived.Test.YtlmkcakmeldfeaaQLocB
import Derived.Test.YtlmkcakmeldfeaaHROrder
import Derived.Test.YtlmkcakmeldfeaaHLegal
import Derived.Test.YtlmkcakmeldfeaaHLives
import Derived.Test.YtlmkcakmeldfeaaHMap
namespace Go.Proofs.Ytlmkcakmeldfeaa.Q
set_option maxRecDepth 100000
open Go.RowKit
open Go.Deep
theorem sl_setMap {w : World} {ao : Option Addr} {xs : List Int} (h : Sl w ao xs) {B : Nat} {a : Option Addr} {n c : Nat} {T : TypeId} (Z : w.heap[B]? = some (.cells #[.slice a n c] T (0, 0))) (u : Value) : Sl (w.setCell ⟨B, 0, none⟩ u) ao xs := by
  intro h0
  obtain ⟨b, off, rfl, hb, h1⟩ := Sl.cell h h0
  obtain ⟨ad, e, hc⟩ := h h0
  cases e
  have hne : b ≠ B := by
    rintro rfl
    simp [World.cell?, Z] at h1
    cases e : off with
    | zero => rw [e] at h1; simp at h1
    | succ o => rw [e] at h1; simp at h1
  refine ⟨_, rfl, fun i hi => ?_⟩
  have e : ((⟨b, off, none⟩ : Addr).add i).block = b := add_block _ _
  rw [World.cell?_of_block (w := w) (blk_setCell_other _ _ _ _ (fun q => hne (by rw [← e]; exact q)))]
  exact hc i hi
theorem sl_keptn {l : List Nat} {w w' : World} {ao : Option Addr} {xs : List Int} (h : Sl w ao xs) (k : Kept l w w') (hl : ∀ ad, ao = some ad → 0 < xs.length → ad.block ∉ l) : Sl w' ao xs := fun h0 => (h.kept k (fun ad e => hl ad e h0)) h0
theorem sl_lt {w : World} {ao : Option Addr} {xs : List Int} (h : Sl w ao xs) (h0 : 0 < xs.length) {ad : Addr} (e : ao = some ad) : ad.block < w.heap.size := by
  obtain ⟨b, off, e2, hb, _⟩ := Sl.cell h h0
  rw [e2] at e; cases e; exact hb
theorem MpV.lt {w : World} {ao : Option Addr} {n cap : Nat} {ps : List Pr} (h : MpV w ao n cap ps) (h0 : 0 < n) {ad : Addr} (e : ao = some ad) : ad.block < w.heap.size := by
  obtain ⟨b, off, e2, hb, _⟩ := h.2.1 (by rw [← h.1]; exact h0)
  rw [e2] at e; cases e; exact hb
theorem doM_less {ps : List Pr} {o : OpQ} (h : o.d ≠ 2) : (doM ps o).length ≤ ps.length := by
  unfold doM
  rw [if_neg h]
  split
  · have := wi_len ps ⟨o.k, 0⟩
    unfold wi at this
    unfold wo
    simp at this ⊢
    omega
  · exact Nat.le_refl _
/-- Behind k ops: the map, the events. -/
structure TS (ops : List OpQ) (base : Nat) (W : World) (v : Value) (k : Nat) (evs : List Ev) (mo : Option Addr) (mn mc : Nat) : Prop where
  map : MpV W mo mn mc (mT ops k)
  own : OwnV 14 evL W base 53 v evs
  len : evs.length = k
  trn : Trn ops evs
  keys : ∀ e ∈ evs, Sl W e.ka e.ks
  apM : ∀ g ad, v.ownBlock = some g → mo = some ad → 0 < mn → ad.block ≠ g
  apK : ∀ g, v.ownBlock = some g → ∀ e ∈ evs, ∀ ad, e.ka = some ad → 0 < e.ks.length → ad.block ≠ g
theorem TS.zero (ops : List OpQ) (base : Nat) (W : World) : TS ops base W (.slice none 0 0) 0 [] none 0 0 :=
  ⟨MpV.nil _, OwnV.nil _ _ _, rfl, ⟨Nat.zero_le _, fun j hj => absurd hj (by simp)⟩, by simp, by simp, by simp⟩
theorem TS.new {ops : List OpQ} {base : Nat} {W W' : World} {v : Value} {k : Nat} {evs : List Ev} {mo : Option Addr} {mn mc : Nat} (h : TS ops base W v k evs mo mn mc) (K : Kept [] W W') : TS ops base W' v k evs mo mn mc :=
  ⟨h.map.new K, h.own.new K, h.len, h.trn, fun e he => (h.keys e he).new K, h.apM, h.apK⟩
/-- Behind the op, ahead of the append. -/
structure TM (ops : List OpQ) (base : Nat) (V : World) (v : Value) (k : Nat) (evs : List Ev) (bo : Option Addr) (m cb : Nat) (ko : Option Addr) (ks : List Int) : Prop where
  map : MpV V bo m cb (mT ops (k + 1))
  own : OwnV 14 evL V base 53 v evs
  len : evs.length = k
  trn : Trn ops evs
  keys : ∀ e ∈ evs, Sl V e.ka e.ks
  sl : Sl V ko ks
  apM : ∀ g ad, v.ownBlock = some g → bo = some ad → 0 < m → ad.block ≠ g
  apK : ∀ g, v.ownBlock = some g → ∀ e ∈ evs, ∀ ad, e.ka = some ad → 0 < e.ks.length → ad.block ≠ g
  apN : ∀ g ad, v.ownBlock = some g → ko = some ad → 0 < ks.length → ad.block ≠ g
theorem TS.mid {ops : List OpQ} {base : Nat} {wr : World} {v : Value} {k : Nat} {evs : List Ev} {mo : Option Addr} {mn mc : Nat} (T : TS ops base wr v k evs mo mn mc) {W1 w2 : World} (K1 : Kept [] wr W1) {bo : Option Addr} {m cb : Nat} {ko : Option Addr} {ks : List Int} {o : OpQ}
    (M : MpV w2 bo m cb (mT ops (k + 1))) (em : mT ops (k + 1) = doM (mT ops k) o) (S : Sl w2 ko ks) (A : (bo = mo ∧ o.d ≠ 2) ∨ ∀ ad, bo = some ad → W1.heap.size ≤ ad.block) (B : ∀ ad, ko = some ad → 0 < ks.length → W1.heap.size ≤ ad.block) (K2 : Kept [] W1 w2) : TM ops base w2 v k evs bo m cb ko ks := by
  have K := K1.trans K2
  have hb : ∀ g, v.ownBlock = some g → g < W1.heap.size := fun g e => by have := (T.own.base g e).2; have := K1.size; omega
  refine ⟨M, T.own.new K, T.len, T.trn, fun e he => (T.keys e he).new K, S, fun g ad e1 e2 h0 => ?_, T.apK, fun g ad e1 e2 h0 => ?_⟩
  · rcases A with ⟨rfl, hd⟩ | A
    · refine T.apM g ad e1 e2 ?_
      have h1 := doM_less (ps := mT ops k) hd
      have h2 := M.1
      have h3 := T.map.1
      rw [em] at h2
      omega
    · have := A ad e2
      have := hb g e1
      omega
  · have := B ad e2 h0
    have := hb g e1
    omega
theorem TM.new {ops : List OpQ} {base : Nat} {W W' : World} {v : Value} {k : Nat} {evs : List Ev} {bo : Option Addr} {m cb : Nat} {ko : Option Addr} {ks : List Int} (h : TM ops base W v k evs bo m cb ko ks) (K : Kept [] W W') : TM ops base W' v k evs bo m cb ko ks :=
  ⟨h.map.new K, h.own.new K, h.len, h.trn, fun e he => (h.keys e he).new K, h.sl.new K, h.apM, h.apK, h.apN⟩
theorem TM.setMap {ops : List OpQ} {base : Nat} {W : World} {v : Value} {k : Nat} {evs : List Ev} {bo : Option Addr} {m cb : Nat} {ko : Option Addr} {ks : List Int} (h : TM ops base W v k evs bo m cb ko ks) {B : Nat} {a : Option Addr} {n c : Nat} {T : TypeId} (Z : W.heap[B]? = some (.cells #[.slice a n c] T (0, 0))) (hB : B < base) (u : Value) : TM ops base (W.setCell ⟨B, 0, none⟩ u) v k evs bo m cb ko ks :=
  ⟨h.map.setMap Z u, h.own.kept (l := [B]) ((Kept.refl _ _).setCell (p := ⟨B, 0, none⟩) (Or.inl (by simp)) u) (fun g e => by have := (h.own.base g e).1; simp; omega), h.len, h.trn, fun e he => sl_setMap (h.keys e he) Z u, sl_setMap h.sl Z u, h.apM, h.apK, h.apN⟩
theorem trn_snoc {ops : List OpQ} {es : List Ev} {x : Ev} (h : Trn ops es) (hl : es.length < ops.length) (hx : TrE ops es.length x) : Trn ops (es ++ [x]) := by
  refine ⟨by simp; omega, fun j hj => ?_⟩
  by_cases q : j < es.length
  · have e : evAt (es ++ [x]) j = evAt es j := by unfold evAt; simp [List.getD_eq_getElem?_getD, List.getElem?_append_left q]
    rw [e]; exact h.2 j q
  · have e : j = es.length := by simp at hj; omega
    subst e
    have e : evAt (es ++ [x]) es.length = x := by unfold evAt; simp
    rw [e]; exact hx
theorem TM.step {ops : List OpQ} {base : Nat} {V w6 : World} {v : Value} {k : Nat} {evs : List Ev} {bo : Option Addr} {m cb : Nat} {ko : Option Addr} {ks : List Int} (h : TM ops base V v k evs bo m cb ko ks) {g L cp : Nat} {x : Ev} (hk : k < ops.length) (hx : TrE ops k x) (e1 : x.ka = ko) (e2 : x.ks = ks)
    (O : OwnV 14 evL w6 base 53 (.slice (some ⟨g, 0, none⟩) L cp) (evs ++ [x])) (hat : v.ownBlock = some g ∨ V.heap.size ≤ g) (K : Kept v.ownBlock.toList V w6) : TS ops base w6 (.slice (some ⟨g, 0, none⟩) L cp) (k + 1) (evs ++ [x]) bo m cb := by
  subst e1 e2
  have key : ∀ e ∈ evs ++ [x], Sl V e.ka e.ks ∧ ∀ g', v.ownBlock = some g' → ∀ ad, e.ka = some ad → 0 < e.ks.length → ad.block ≠ g' := fun e he => by
    rcases List.mem_append.1 he with q | q
    · exact ⟨h.keys e q, fun g' e1 => h.apK g' e1 e q⟩
    · simp at q; subst q
      exact ⟨h.sl, fun g' ad e1 => h.apN g' e1 ad⟩
  refine ⟨⟨h.map.1, SlOf.keptn h.map.2.1 K (fun ad e h0 hm => ?_), h.map.2.2⟩, O, by simp [h.len], trn_snoc h.trn (by rw [h.len]; exact hk) (by rw [h.len]; exact hx), fun e he => sl_keptn (key e he).1 K (fun ad e1 h0 hm => ?_), fun g' ad q1 q2 h0 => ?_, fun g' q1 e he ad q2 h0 => ?_⟩
  · simp at hm
    exact h.apM _ ad hm e (by rw [h.map.1]; exact h0) rfl
  · simp at hm
    exact (key e he).2 _ hm ad e1 h0 rfl
  · simp [Value.ownBlock] at q1
    subst q1
    rcases hat with q | q
    · exact h.apM _ ad q q2 h0
    · have := h.map.lt h0 q2
      omega
  · simp [Value.ownBlock] at q1
    subst q1
    rcases hat with q | q
    · exact (key e he).2 _ q ad q2 h0
    · have := sl_lt (key e he).1 h0 q2
      omega
/-- Keys. -/
def PWf (ps : List Pr) : Prop := ∀ x ∈ ps, (Lit.int .u64 x.k).wf = true
theorem doM_pwf {ps : List Pr} (h : PWf ps) {o : OpQ} (hk : (Lit.int .u64 o.k).wf = true) : PWf (doM ps o) := by
  unfold doM; split
  · intro x hx
    unfold wi at hx
    rcases List.mem_append.1 hx with q | q
    · exact h x (mem_blw.1 q).1
    · rcases List.mem_cons.1 q with r | r
      · subst r; exact hk
      · exact h x (mem_abv.1 r).1
  · split
    · intro x hx
      unfold wo at hx
      rcases List.mem_append.1 hx with q | q
      · exact h x (mem_blw.1 q).1
      · exact h x (mem_abv.1 q).1
    · exact h
theorem fold_pwf : ∀ (l : List OpQ) (m : List Pr), (∀ o ∈ l, (Lit.int .u64 o.k).wf = true) → PWf m → PWf (l.foldl doM m)
  | [], _, _, h => h
  | o :: l, m, hl, h => fold_pwf l (doM m o) (fun x hx => hl x (List.mem_cons_of_mem _ hx)) (doM_pwf h (hl o (by simp)))
theorem mT_pwf {ops : List OpQ} (h : ∀ o ∈ ops, (Lit.int .u64 o.k).wf = true) (j : Nat) : PWf (mT ops j) :=
  fold_pwf _ _ (fun o ho => h o (List.mem_of_mem_take ho)) (fun x hx => by cases hx)
theorem mT_wd {ops : List OpQ} (h : ∀ o ∈ ops, (Lit.int .u64 o.k).wf = true) (j : Nat) : Wd (mT ops j) := fun x hx => word_le (mT_pwf h j x hx)
theorem fold_len : ∀ (l : List OpQ) (m : List Pr), (l.foldl doM m).length ≤ m.length + l.length
  | [], m => by simp
  | o :: l, m => by have h1 := fold_len l (doM m o); have h2 := doM_len m o; simp only [List.foldl_cons, List.length_cons]; omega
theorem mT_len {ops : List OpQ} (j : Nat) : (mT ops j).length ≤ j := by
  have := fold_len (ops.take j) []
  rw [List.length_take] at this
  unfold mT; simp at this; omega
theorem trn_kwf {ops : List OpQ} {es : List Ev} (h : Trn ops es) (hw : ∀ o ∈ ops, (Lit.int .u64 o.k).wf = true) : KWf es := by
  have at_ : ∀ e ∈ es, ∃ j, j < es.length ∧ TrE ops j e := fun e he => by
    obtain ⟨i, hi, e1⟩ := List.mem_iff_getElem.1 he
    have := h.2 i hi
    rw [show evAt es i = e by unfold evAt; rw [← e1]; simp [hi]] at this
    exact ⟨i, hi, this⟩
  have hm : ∀ j, j < es.length → ops.getD j opZ ∈ ops := fun j hj => by have := h.1; rw [List.getD_eq_getElem?_getD, List.getElem?_eq_getElem (by omega)]; exact List.getElem_mem _
  refine ⟨fun e he => ?_, fun e he x hx => ?_⟩
  · obtain ⟨j, hj, t⟩ := at_ e he
    rw [t.op]; exact hw _ (hm j hj)
  · obtain ⟨j, hj, t⟩ := at_ e he
    rw [t.ks] at hx
    unfold doK at hx
    split at hx
    · unfold rgK nbl at hx
      obtain ⟨p, hp, rfl⟩ := List.mem_map.1 (List.mem_of_mem_take hx)
      have hp := (List.mem_filter.1 hp).1
      exact mT_pwf hw j p (List.mem_filter.1 hp).1
    · cases hx
theorem trn_ksl {ops : List OpQ} {es : List Ev} (h : Trn ops es) (hl : ops.length ≤ 30) : Ksl es := fun e he => by
  obtain ⟨i, hi, e1⟩ := List.mem_iff_getElem.1 he
  have t := h.2 i hi
  rw [show evAt es i = e by unfold evAt; rw [← e1]; simp [hi]] at t
  rw [t.ks]
  have h1 := doK_len (mT ops i) (ops.getD i opZ)
  have h2 := mT_len (ops := ops) i
  have := h.1
  omega
section
variable {H : Type} {enc : TypeId × Value → H} {w : World} {r : Reach} {b0 : Nat} {v : Value} {d : DataW H} {p : List MemPlace}
theorem op_cells8 {cs : List Value} (h : F2 [.int .i64, .int .u64, .int .u64, .int .i64, .int .i64] cs) : ∃ o : OpQ, cs = oC o ∧ (Lit.int .u64 o.k).wf = true := by
  obtain ⟨a0, r, rfl, _, h⟩ := F2_int h
  obtain ⟨a1, r, rfl, w1, h⟩ := F2_int h
  obtain ⟨a2, r, rfl, _, h⟩ := F2_int h
  obtain ⟨a3, r, rfl, _, h⟩ := F2_int h
  obtain ⟨a4, r, rfl, _, h⟩ := F2_int h
  obtain rfl := F2_nil h
  exact ⟨⟨a0, a1, a2, a3, a4⟩, rfl, w1⟩
theorem open_ops8 (hv : Value.okWide Try.prog w r b0 50 v) (h : DataW.Trod enc Try.prog w 0 (fun _ => true) true 50 v d p) :
    ∃ ao cap es, v = .slice ao (List.length es) cap ∧ SlOf 5 oC w ao es ∧ (∀ x ∈ es, (Lit.int .u64 x.k).wf = true) := by
  obtain ⟨ao, cap, xs, h1, h2, h3, h4, h5⟩ := open_slice_of (ks := [.int .i64, .int .u64, .int .u64, .int .i64, .int .i64]) oC (fun e => (Lit.int .u64 e.k).wf = true) Try.underlying50 flat_op cells_op (by decide) (fun cs hF => op_cells8 hF) hv h
  exact ⟨ao, cap, xs, h1, h2, h3⟩
end
theorem SlV.set_go {W : World} {g off : Nat} {cur : Array Value} {T : TypeId} {es : List Ev} (S : SlV W (some ⟨g, off, none⟩) es) (Z : W.heap[g]? = some (.cells cur T (0, 0))) {j : Nat} (hj : j < es.length) (gv : Int) :
    SlV (W.setCell ⟨g, off + j * 14 + 12, none⟩ (.int .u64 gv)) (some ⟨g, off, none⟩) (es.set j { evAt es j with go := gv }) := by
  intro _
  obtain ⟨b, o, e, _, hc⟩ := S (by omega)
  cases e
  have Y := blk_set Z (off + j * 14 + 12) (.int .u64 gv)
  refine ⟨g, off, rfl, lt_of_blk Y, fun i hi q v hv => ?_⟩
  have hi' : i < es.length := by simpa using hi
  have old : ∀ (q : Nat) (v : Value), (evL es[i])[q]? = some v → cur[off + i * 14 + q]? = some v := fun q v h => by
    have := hc i hi' q v h
    simpa [World.cell?, Z] using this
  refine cell_of_blk Y ?_
  have hq : q < 14 := by have := (List.getElem?_eq_some_iff.1 hv).1; rw [evL_len] at this; exact this
  by_cases hij : i = j
  · subst hij
    have ee : evAt es i = es[i] := by unfold evAt; simp [hi']
    have ex : (es.set i { evAt es i with go := gv })[i] = { evAt es i with go := gv } := by simp
    rw [ex, ee] at hv
    by_cases h12 : q = 12
    · subst h12
      have l := (Array.getElem?_eq_some_iff.1 (old 12 _ rfl)).1
      rw [Array.getElem?_setIfInBounds, if_pos rfl, if_pos l, ← hv]
      rfl
    · rw [Array.getElem?_setIfInBounds, if_neg (by omega)]
      refine old q v ?_
      rw [← hv]
      clear hv old
      rcases q with _ | _ | _ | _ | _ | _ | _ | _ | _ | _ | _ | _ | _ | _ | q <;> first | rfl | omega
  · have ex : (es.set j { evAt es j with go := gv })[i] = es[i] := by rw [List.getElem_set_ne (fun e => hij e.symm)]
    rw [ex] at hv
    rw [Array.getElem?_setIfInBounds, if_neg (by omega)]
    exact old q v hv
end Go.Proofs.Ytlmkcakmeldfeaa.Q
