/-
  The document's own ops of a map: what is common to all kinds.
  The document's own op of a map: Get.
  The document's own op of a map: Put.
  The document's own op of a map: Delete.
  The document's own op of a map: Ceiling.
  The document's own op of a map: Range.
  The document's own op of a map: of another kind.
  The contract of any op of the document's own map.
-/
import Derived.Test.YtlmkcakmeldfeaaQRefs
import Derived.Test.YtlmkcakmeldfeaaQDoes
import Derived.BigRegion
import Derived.Deep.RegionLaw
namespace Go.Proofs.Ytlmkcakmeldfeaa.Q
set_option maxRecDepth 100000
open Go.RowKit
open Go.Deep
/-- What the document's op leaves, and tells. -/
def RDoP (w : World) (ps : List Pr) (op : OpQ) (o : Ending) (w' : World) : Prop := ∃ bo m cb ko kn kc, o = .returned (.tuple #[.slice bo m cb, .agg #[.bool false, .bool (doH ps op), .int .u64 (doG ps op), .slice ko kn kc]]) ∧ MpV w' bo m cb (doM ps op) ∧ kn = (doK ps op).length ∧ Sl w' ko (doK ps op) ∧ Kept [] w w'
structure Rb (w W : World) (H : Nat) (o : OpQ) : Prop where
  z1 : W.heap[H]? = some (.cells #[.int .i64 o.d, .int .u64 o.k, .int .u64 o.v, .int .i64 o.n, .int .i64 o.t] 43 (0, 0))
  z3 : W.heap[H + 1]? = some (.cells #[.bool false, .bool false, .int .u64 0, .slice none 0 0] 46 (0, 0))
  kept : Kept [] w W
  le : w.heap.size ≤ H
theorem Rb.kept' {w W W' : World} {H : Nat} {o : OpQ} (h : Rb w W H o) (k : Kept [] W W') : Rb w W' H o :=
  ⟨k.blk h.z1 (by simp), k.blk h.z3 (by simp), h.kept.trans k, h.le⟩
theorem Rb.new (w : World) (o : OpQ) : Rb w ((w.alloc (.cells #[.int .i64 o.d, .int .u64 o.k, .int .u64 o.v, .int .i64 o.n, .int .i64 o.t] 43)).alloc (.cells #[.bool false, .bool false, .int .u64 0, .slice none 0 0] 46)) w.heap.size o := by
  refine ⟨box_alloc (blk_alloc_new _ _) _, ?_, ((Kept.refl _ _).alloc _).alloc _, Nat.le_refl _⟩
  have := blk_alloc_new (w.alloc (.cells #[.int .i64 o.d, .int .u64 o.k, .int .u64 o.v, .int .i64 o.n, .int .i64 o.t] 43)) (.cells #[.bool false, .bool false, .int .u64 0, .slice none 0 0] 46)
  simp only [nblk_alloc] at this; exact this
def rEnd (W : World) (H : Nat) (h : Bool) (g : Int) (ko : Option Addr) (kn kc : Nat) : World :=
  (((W.setCell ⟨H + 1, 0, none⟩ (.bool false)).setCell ⟨H + 1, 1, none⟩ (.bool h)).setCell ⟨H + 1, 2, none⟩ (.int .u64 g)).setCell ⟨H + 1, 3, none⟩ (.slice ko kn kc)
theorem Rb.fin {w W : World} {H : Nat} {op : OpQ} (D : Rb w W H op) {ps : List Pr} {bo : Option Addr} {m cb : Nat} {h : Bool} {g : Int} {ko : Option Addr} {kn kc : Nat} (M : MpV W bo m cb ps) {ks : List Int} (S : Sl W ko ks) (hk : ∀ ad, ko = some ad → H + 1 + 1 ≤ ad.block) :
    MpV (rEnd W H h g ko kn kc) bo m cb ps ∧ Sl (rEnd W H h g ko kn kc) ko ks ∧ Kept [] w (rEnd W H h g ko kn kc) ∧ (rEnd W H h g ko kn kc).heap[H + 1]? = some (.cells #[.bool false, .bool h, .int .u64 g, .slice ko kn kc] 46 (0, 0)) := by
  have e1 := blk_set D.z3 0 (.bool false)
  have e2 := blk_set e1 1 (.bool h)
  have e3 := blk_set e2 2 (.int .u64 g)
  have e4 := blk_set e3 3 (.slice ko kn kc)
  have KK : Kept [H + 1] W (rEnd W H h g ko kn kc) := by
    unfold rEnd
    exact ((((Kept.refl _ W).setCell (p := ⟨H + 1, 0, none⟩) (Or.inl (by simp)) _).setCell (p := ⟨H + 1, 1, none⟩) (Or.inl (by simp)) _).setCell (p := ⟨H + 1, 2, none⟩) (Or.inl (by simp)) _).setCell (p := ⟨H + 1, 3, none⟩) (Or.inl (by simp)) _
  refine ⟨⟨M.1, ?_, M.2.2⟩, S.kept KK (fun ad e => by have := hk ad e; simp; omega), D.kept.then KK (by intro x hx; right; have := D.le; simp at hx; omega), e4⟩
  exact SlP.setAns (SlP.setAns (SlP.setAns (SlP.setAns M.2.1 D.z3 0 _) e1 1 _) e2 2 _) e3 3 _
/-- Words in a row of their own. -/
def OwnW (w : World) (base : Nat) (v : Value) (ks : List Int) : Prop := w.ownsRow base 41 1 v ks.length (ks.map (Value.int .u64))
theorem OwnW.kept {l : List Nat} {w w' : World} {base : Nat} {v : Value} {es : List Int} (h : OwnW w base v es) (k : Kept l w w') (hn : ∀ g, v.ownBlock = some g → g ∉ l) : OwnW w' base v es := by
  obtain ⟨h1, h2 | ⟨g, cap, cur, rfl, hb, hg, hr⟩⟩ := h
  · exact ⟨h1, Or.inl h2⟩
  · exact ⟨h1, Or.inr ⟨g, cap, cur, rfl, hb, k.blk hg (hn g rfl), hr⟩⟩
theorem OwnW.new {w w' : World} {base : Nat} {v : Value} {es : List Int} (h : OwnW w base v es) (k : Kept [] w w') : OwnW w' base v es := h.kept k (by simp)
theorem OwnW.shape {w : World} {base : Nat} {v : Value} {es : List Int} (h : OwnW w base v es) : ∃ ao cap, v = .slice ao es.length cap ∧ Sl w ao es ∧ ∀ ad, ao = some ad → base ≤ ad.block := by
  obtain ⟨h1, ⟨rfl, h0⟩ | ⟨g, cap, cur, rfl, hb, hg, hnc, hcm, hsz, htk⟩⟩ := h
  · have : es = [] := List.eq_nil_of_length_eq_zero h0
    subst this
    exact ⟨none, 0, rfl, fun h => absurd h (by simp), by simp⟩
  · refine ⟨_, cap, rfl, fun _ => ⟨_, rfl, fun i hi => ?_⟩, by intro ad e; cases e; exact hb⟩
    rw [addr_add0]
    refine cell_of_blk hg ?_
    have q : (es.map (Value.int .u64))[i]? = some (.int .u64 es[i]) := by simp [hi]
    rw [← htk, List.getElem?_take] at q
    split at q
    · rw [← Array.getElem?_toList]; exact q
    · cases q
/-- What is elder than a row is as it was, behind an append to the row. -/
theorem grow_keep {W X w3 : World} {base B : Nat} {v : Value} {R : List Int} {o : Obj} (K : Kept [] W X) (hg : X.grownBy w3 v.ownBlock) (O : OwnW W base v R) (hB : B < base) (Z : W.heap[B]? = some o) : w3.heap[B]? = some o := by
  refine (hg.block B (Nat.lt_of_lt_of_le (lt_of_blk Z) K.size) (fun e => ?_)).trans (K.blk Z (by simp))
  have := (World.ownsRow.lt O B e.symm).1; omega
theorem grow_kept {U W X w3 : World} {l : List Nat} {v : Value} {R : List Int} (K : Kept l U W) (K2 : Kept [] W X) (hg : X.grownBy w3 v.ownBlock) (O : OwnW W U.heap.size v R) : Kept l U w3 :=
  (K.then K2 (by simp)).then (m := v.ownBlock.toList) ⟨hg.os, hg.tape, hg.output, hg.size, fun i hi hn => hg.block i hi (fun e => hn (by rw [← e]; simp))⟩ (by
    intro x hx; right; exact (World.ownsRow.lt O x (by simpa using hx)).1)
/-- The first that is not below k. -/
theorem nbl_next {ps : List Pr} {i : Nat} {k : Int} (h : i < ps.length) (h1 : nbl (ps.take i) k = []) : (k ≤ (ps.getD i default).k → (nbl ps k).head? = some (ps.getD i default)) ∧ (¬ k ≤ (ps.getD i default).k → nbl (ps.take (i + 1)) k = []) := by
  have e : ps = ps.take i ++ (ps.getD i default :: ps.drop (i + 1)) := by
    conv => lhs; rw [← List.take_append_drop i ps]
    congr 1
    rw [List.drop_eq_getElem_cons h]
    simp [h]
  unfold nbl at h1 ⊢
  constructor
  · intro q
    conv => lhs; rw [e]
    rw [List.filter_append, h1, List.nil_append, List.filter_cons_of_pos (by simpa using q)]; rfl
  · intro q
    rw [take_next h default, filter_snoc, h1, if_neg (by simpa using q)]; rfl
/-- One more of a range. -/
theorem rgK_next {ps : List Pr} {i : Nat} {a b n : Int} (h : i < ps.length) :
    ((a ≤ (ps.getD i default).k ∧ (ps.getD i default).k ≤ b ∧ ((rgK (ps.take i) a b n).length : Int) < n) → rgK (ps.take (i + 1)) a b n = rgK (ps.take i) a b n ++ [(ps.getD i default).k]) ∧
    (¬ (a ≤ (ps.getD i default).k ∧ (ps.getD i default).k ≤ b ∧ ((rgK (ps.take i) a b n).length : Int) < n) → rgK (ps.take (i + 1)) a b n = rgK (ps.take i) a b n) := by
  unfold rgK nbl
  rw [take_next h default]
  generalize ps.getD i default = x
  rw [filter_snoc]
  by_cases q1 : a ≤ x.k
  · rw [if_pos (by simpa using q1), filter_snoc]
    by_cases q2 : x.k ≤ b
    · rw [if_pos (by simpa using q2), List.map_append]
      generalize (((ps.take i).filter (fun q => decide (a ≤ q.k))).filter (fun p => decide (p.k ≤ b))).map Pr.k = L
      constructor
      · rintro ⟨_, _, h3⟩
        rw [List.length_take] at h3
        rw [List.take_of_length_le (by simp; omega), List.take_of_length_le (by omega)]; rfl
      · intro h4
        have h5 : n.toNat ≤ L.length := by
          rw [List.length_take] at h4
          have : ¬ ((min n.toNat L.length : Nat) : Int) < n := fun h => h4 ⟨q1, q2, h⟩
          omega
        rw [List.take_append_of_le_length h5]
    · rw [if_neg (by simpa using q2), List.append_nil]
      exact ⟨fun h => absurd h.2.1 q2, fun _ => rfl⟩
  · rw [if_neg (by simpa using q1), List.append_nil]
    exact ⟨fun h => absurd h.1 q1, fun _ => rfl⟩
end Go.Proofs.Ytlmkcakmeldfeaa.Q
namespace Go.Proofs.Ytlmkcakmeldfeaa.Q
set_option maxRecDepth 100000
open Go.RowKit
open Go.Deep
set_option maxHeartbeats 4000000 in
theorem rdo_get (ao : Option Addr) (ps : List Pr) (n cap : Nat) (op : OpQ) (w : World) (h : MpV w ao n cap ps) (_hst : Str ps) (hl : n ≤ 1000) (hd : op.d = 1) :
    Calls Try.prog 30 #[.slice ao n cap, .agg #[.int .i64 op.d, .int .u64 op.k, .int .u64 op.v, .int .i64 op.n, .int .i64 op.t]] w fun o w' => RDoP w ps op o w' := by
  obtain ⟨A, hA⟩ : ∃ A, gtH ps op.k = A := ⟨_, rfl⟩
  obtain ⟨B, hB⟩ : ∃ B, gtV ps op.k = B := ⟨_, rfl⟩
  have e1 : doM ps op = ps := by unfold doM; rw [if_neg (by omega), if_neg (by omega)]
  have e2 : doH ps op = A := by unfold doH; rw [if_pos (Or.inl hd)]; exact hA
  have e3 : doG ps op = B := by unfold doG; rw [if_pos (Or.inl hd)]; exact hB
  have e4 : doK ps op = [] := by unfold doK; rw [if_neg (by omega)]
  have EE : Hid _ := And.intro e1 (And.intro e2 (And.intro e3 e4))
  clear e1 e2 e3 e4
  obtain ⟨d, k, v, nn, t⟩ := op
  simp only at hd
  subst hd
  have D0 := Rb.new w ⟨1, k, v, nn, t⟩
  obtain ⟨W, hW⟩ : ∃ W, W = ((w.alloc (.cells #[.int .i64 1, .int .u64 k, .int .u64 v, .int .i64 nn, .int .i64 t] 43)).alloc (.cells #[.bool false, .bool false, .int .u64 0, .slice none 0 0] 46)) := ⟨_, rfl⟩
  have D : Rb w W w.heap.size ⟨1, k, v, nn, t⟩ := by rw [hW]; exact D0
  have hc := rget_any ao ps n cap k W (h.new D.kept) hl
  rw [hA, hB] at hc
  have HM : Hid (MpV w ao n cap ps) := h
  clear D0 h hA hB
  rw [hW] at hc
  go_enter Try.func30, Try.ntmps30
  go_wp2_with fail
  refine hc.mono ?_
  rintro o w5 ⟨rfl, K5⟩
  rw [← hW] at K5
  clear hc hW
  have s1 := cell_of_blk (K5.blk D.z3 (by simp)) (i := 0) rfl; have s2 := cell_of_blk (K5.blk D.z3 (by simp)) (i := 1) rfl; have s3 := cell_of_blk (K5.blk D.z3 (by simp)) (i := 2) rfl; have s4 := cell_of_blk (K5.blk D.z3 (by simp)) (i := 3) rfl; have f1 := free_of_blk (K5.blk D.z3 (by simp))
  go_wp2
  have F := (D.kept' K5).fin (bo := ao) (m := n) (cb := cap) (h := A) (g := B) (ko := none) (kn := 0) (kc := 0) (MpV.new HM.out (D.kept.trans K5)) (ks := []) (fun h => absurd h (by simp)) (by simp)
  unfold rEnd at F
  obtain ⟨F1, F2, F3, F5⟩ := F
  have y0 := cell_of_blk F5 (i := 0) rfl
  have y1 := cell_of_blk F5 (i := 1) rfl
  have y2 := cell_of_blk F5 (i := 2) rfl
  have y3 := cell_of_blk F5 (i := 3) rfl
  refine bodyPost_ret (v := .tuple #[.slice ao n cap, .agg #[.bool false, .bool A, .int .u64 B, .slice none 0 0]]) (by simp [results, Try.results30, go_sem, y0, y1, y2, y3]; done) rfl ?_
  exact ⟨ao, n, cap, none, 0, 0, by rw [EE.out.2.1, EE.out.2.2.1], by rw [EE.out.1]; exact F1, by rw [EE.out.2.2.2]; exact rfl, by rw [EE.out.2.2.2]; exact F2, F3⟩
end Go.Proofs.Ytlmkcakmeldfeaa.Q
namespace Go.Proofs.Ytlmkcakmeldfeaa.Q
set_option maxRecDepth 100000
open Go.RowKit
open Go.Deep
set_option maxHeartbeats 4000000 in
theorem rdo_put (ao : Option Addr) (ps : List Pr) (n cap : Nat) (op : OpQ) (w : World) (h : MpV w ao n cap ps) (hst : Str ps) (hl : n ≤ 1000) (hd : op.d = 2) :
    Calls Try.prog 30 #[.slice ao n cap, .agg #[.int .i64 op.d, .int .u64 op.k, .int .u64 op.v, .int .i64 op.n, .int .i64 op.t]] w fun o w' => RDoP w ps op o w' := by
  obtain ⟨A, hA⟩ : ∃ A, gtH ps op.k = A := ⟨_, rfl⟩
  obtain ⟨B, hB⟩ : ∃ B, gtV ps op.k = B := ⟨_, rfl⟩
  obtain ⟨C, hC⟩ : ∃ C, wi ps ⟨op.k, op.v⟩ = C := ⟨_, rfl⟩
  have e1 : doM ps op = C := by unfold doM; rw [if_pos hd]; exact hC
  have e2 : doH ps op = A := by unfold doH; rw [if_pos (by omega)]; exact hA
  have e3 : doG ps op = B := by unfold doG; rw [if_pos (by omega)]; exact hB
  have e4 : doK ps op = [] := by unfold doK; rw [if_neg (by omega)]
  have EE : Hid _ := And.intro e1 (And.intro e2 (And.intro e3 e4))
  clear e1 e2 e3 e4
  obtain ⟨d, k, v, nn, t⟩ := op
  simp only at hd
  subst hd
  have D0 := Rb.new w ⟨2, k, v, nn, t⟩
  go_enter Try.func30, Try.ntmps30
  go_wp2_with fail
  refine gen_world (fun W => Rb w W w.heap.size ⟨2, k, v, nn, t⟩) D0 ?_
  clear D0
  intro W D
  obtain ⟨H, hH⟩ : ∃ H, H = w.heap.size := ⟨_, rfl⟩
  rw [← hH] at D ⊢
  clear hH
  have HS : Hid (∀ W' : World, Kept [H + 1] W W' → W'.cell? ⟨H, 1, none⟩ = some (.int .u64 k) ∧ W'.cell? ⟨H, 2, none⟩ = some (.int .u64 v)) := fun W' k' =>
    ⟨cell_of_blk (k'.blk D.z1 (by simp)) (i := 1) rfl, cell_of_blk (k'.blk D.z1 (by simp)) (i := 2) rfl⟩
  have G : Hid (∀ W' : World, Kept [] W W' → Calls Try.prog 49 #[.slice ao n cap, .int .u64 k] W' fun o w' => o = .returned (.agg #[.bool false, .bool A, .int .u64 B, .slice none 0 0]) ∧ Kept [] W w' ∧ Kept [] W' w') := fun W' k' => by rw [← hA, ← hB]; exact (rget_any ao ps n cap k W' (h.new (D.kept.trans k')) hl).mono fun _ _ hh => ⟨hh.1, k'.trans hh.2, hh.2⟩
  have M : Hid (∀ W' : World, Kept [] W W' → Calls Try.prog 50 #[.slice ao n cap, .agg #[.int .u64 k, .int .u64 v]] W' fun o w' => ∃ bo m cb, o = .returned (.slice bo m cb) ∧ Hid (MpV w' bo m cb C) ∧ Kept [] W w') := fun W' k' => by rw [← hC]; exact (rwith_any ao ps n cap ⟨k, v⟩ W' (h.new (D.kept.trans k')) hst hl).mono fun _ _ hh => by obtain ⟨a, b, c, q1, q2, q3⟩ := hh; exact ⟨a, b, c, q1, q2, k'.trans q3⟩
  clear h hA hB hC
  go_region_held3 (fun W' => W'.cell? ⟨H, 1, none⟩ = some (.int .u64 k) ∧ W'.cell? ⟨H, 2, none⟩ = some (.int .u64 v))
    (exact HS.out _ (by (repeat (first | (with_reducible refine Kept.setCell ?_ ?_ _) | (with_reducible refine Kept.drew ?_))); (first | exact Kept.weaken (l := []) (by with_reducible assumption) (by simp) | (with_reducible exact Kept.refl _ _)); all_goals (refine Or.inl ?_; simp; done)))
    (first
      | (go_at_call 49; refine (G.out _ (by first | assumption | exact (Kept.refl _ _).drew)).mono ?_; rintro e w5 ⟨rfl, K5, J5⟩; have s1 := cell_of_blk (K5.blk D.z3 (by simp)) (i := 0) rfl; have s2 := cell_of_blk (K5.blk D.z3 (by simp)) (i := 1) rfl; have s3 := cell_of_blk (K5.blk D.z3 (by simp)) (i := 2) rfl; have s4 := cell_of_blk (K5.blk D.z3 (by simp)) (i := 3) rfl; have f1 := free_of_blk (K5.blk D.z3 (by simp)))
      | (go_at_call 50; refine (M.out _ (by first | assumption | exact (Kept.refl _ _).drew)).mono ?_; rintro e w6 ⟨bo, m, cb, rfl, Q6, K6⟩; have r1 := cell_of_blk (K6.blk D.z3 (by simp)) (i := 0) rfl; have r2 := cell_of_blk (K6.blk D.z3 (by simp)) (i := 1) rfl; have r3 := cell_of_blk (K6.blk D.z3 (by simp)) (i := 2) rfl; have r4 := cell_of_blk (K6.blk D.z3 (by simp)) (i := 3) rfl; have g1 := free_of_blk (K6.blk D.z3 (by simp))))
  all_goals
    go_wp2
    first
      | (have F := (D.kept' K5).fin (bo := bo) (m := m) (cb := cb) (h := A) (g := B) (ko := none) (kn := 0) (kc := 0) (MpV.new Q6.out J5) (ks := []) (fun h => absurd h (by simp)) (by simp)
         unfold rEnd at F
         obtain ⟨F1, F2, F3, F5⟩ := F
         have y0 := cell_of_blk F5 (i := 0) rfl
         have y1 := cell_of_blk F5 (i := 1) rfl
         have y2 := cell_of_blk F5 (i := 2) rfl
         have y3 := cell_of_blk F5 (i := 3) rfl
         refine bodyPost_ret (v := .tuple #[.slice bo m cb, .agg #[.bool false, .bool A, .int .u64 B, .slice none 0 0]]) (by simp [results, Try.results30, go_sem, y0, y1, y2, y3]; done) rfl ?_
         exact ⟨bo, m, cb, none, 0, 0, by rw [EE.out.2.1, EE.out.2.2.1], by rw [EE.out.1]; exact F1, by rw [EE.out.2.2.2]; exact rfl, by rw [EE.out.2.2.2]; exact F2, F3⟩)
      | (have F := (D.kept' K6).fin (bo := bo) (m := m) (cb := cb) (h := A) (g := B) (ko := none) (kn := 0) (kc := 0) Q6.out (ks := []) (fun h => absurd h (by simp)) (by simp)
         unfold rEnd at F
         obtain ⟨F1, F2, F3, F5⟩ := F
         have y0 := cell_of_blk F5 (i := 0) rfl
         have y1 := cell_of_blk F5 (i := 1) rfl
         have y2 := cell_of_blk F5 (i := 2) rfl
         have y3 := cell_of_blk F5 (i := 3) rfl
         refine bodyPost_ret (v := .tuple #[.slice bo m cb, .agg #[.bool false, .bool A, .int .u64 B, .slice none 0 0]]) (by simp [results, Try.results30, go_sem, y0, y1, y2, y3]; done) rfl ?_
         exact ⟨bo, m, cb, none, 0, 0, by rw [EE.out.2.1, EE.out.2.2.1], by rw [EE.out.1]; exact F1, by rw [EE.out.2.2.2]; exact rfl, by rw [EE.out.2.2.2]; exact F2, F3⟩)
end Go.Proofs.Ytlmkcakmeldfeaa.Q
namespace Go.Proofs.Ytlmkcakmeldfeaa.Q
set_option maxRecDepth 100000
open Go.RowKit
open Go.Deep
set_option maxHeartbeats 4000000 in
theorem rdo_del (ao : Option Addr) (ps : List Pr) (n cap : Nat) (op : OpQ) (w : World) (h : MpV w ao n cap ps) (hst : Str ps) (hl : n ≤ 1000) (hd : op.d = 3) :
    Calls Try.prog 30 #[.slice ao n cap, .agg #[.int .i64 op.d, .int .u64 op.k, .int .u64 op.v, .int .i64 op.n, .int .i64 op.t]] w fun o w' => RDoP w ps op o w' := by
  obtain ⟨A, hA⟩ : ∃ A, gtH ps op.k = A := ⟨_, rfl⟩
  obtain ⟨B, hB⟩ : ∃ B, gtV ps op.k = B := ⟨_, rfl⟩
  obtain ⟨C, hC⟩ : ∃ C, wo ps op.k = C := ⟨_, rfl⟩
  have e1 : doM ps op = C := by unfold doM; rw [if_neg (by omega), if_pos hd]; exact hC
  have e2 : doH ps op = A := by unfold doH; rw [if_pos (by omega)]; exact hA
  have e3 : doG ps op = B := by unfold doG; rw [if_pos (by omega)]; exact hB
  have e4 : doK ps op = [] := by unfold doK; rw [if_neg (by omega)]
  have EE : Hid _ := And.intro e1 (And.intro e2 (And.intro e3 e4))
  clear e1 e2 e3 e4
  obtain ⟨d, k, v, nn, t⟩ := op
  simp only at hd
  subst hd
  have D0 := Rb.new w ⟨3, k, v, nn, t⟩
  go_enter Try.func30, Try.ntmps30
  go_wp2_with fail
  refine gen_world (fun W => Rb w W w.heap.size ⟨3, k, v, nn, t⟩) D0 ?_
  clear D0
  intro W D
  obtain ⟨H, hH⟩ : ∃ H, H = w.heap.size := ⟨_, rfl⟩
  rw [← hH] at D ⊢
  clear hH
  have HS : Hid (∀ W' : World, Kept [H + 1] W W' → W'.cell? ⟨H, 1, none⟩ = some (.int .u64 k) ∧ W'.cell? ⟨H, 2, none⟩ = some (.int .u64 v)) := fun W' k' =>
    ⟨cell_of_blk (k'.blk D.z1 (by simp)) (i := 1) rfl, cell_of_blk (k'.blk D.z1 (by simp)) (i := 2) rfl⟩
  have G : Hid (∀ W' : World, Kept [] W W' → Calls Try.prog 49 #[.slice ao n cap, .int .u64 k] W' fun o w' => o = .returned (.agg #[.bool false, .bool A, .int .u64 B, .slice none 0 0]) ∧ Kept [] W w' ∧ Kept [] W' w') := fun W' k' => by rw [← hA, ← hB]; exact (rget_any ao ps n cap k W' (h.new (D.kept.trans k')) hl).mono fun _ _ hh => ⟨hh.1, k'.trans hh.2, hh.2⟩
  have M : Hid (∀ W' : World, Kept [] W W' → Calls Try.prog 51 #[.slice ao n cap, .int .u64 k] W' fun o w' => ∃ bo m cb, o = .returned (.slice bo m cb) ∧ Hid (MpV w' bo m cb C) ∧ Kept [] W w') := fun W' k' => by rw [← hC]; exact (rwithout_any ao ps n cap k W' (h.new (D.kept.trans k')) hst hl).mono fun _ _ hh => by obtain ⟨a, b, c, q1, q2, q3⟩ := hh; exact ⟨a, b, c, q1, q2, k'.trans q3⟩
  clear h hA hB hC
  go_region_held3 (fun W' => W'.cell? ⟨H, 1, none⟩ = some (.int .u64 k) ∧ W'.cell? ⟨H, 2, none⟩ = some (.int .u64 v))
    (exact HS.out _ (by (repeat (first | (with_reducible refine Kept.setCell ?_ ?_ _) | (with_reducible refine Kept.drew ?_))); (first | exact Kept.weaken (l := []) (by with_reducible assumption) (by simp) | (with_reducible exact Kept.refl _ _)); all_goals (refine Or.inl ?_; simp; done)))
    (first
      | (go_at_call 49; refine (G.out _ (by first | assumption | exact (Kept.refl _ _).drew)).mono ?_; rintro e w5 ⟨rfl, K5, J5⟩; have s1 := cell_of_blk (K5.blk D.z3 (by simp)) (i := 0) rfl; have s2 := cell_of_blk (K5.blk D.z3 (by simp)) (i := 1) rfl; have s3 := cell_of_blk (K5.blk D.z3 (by simp)) (i := 2) rfl; have s4 := cell_of_blk (K5.blk D.z3 (by simp)) (i := 3) rfl; have f1 := free_of_blk (K5.blk D.z3 (by simp)))
      | (go_at_call 51; refine (M.out _ (by first | assumption | exact (Kept.refl _ _).drew)).mono ?_; rintro e w6 ⟨bo, m, cb, rfl, Q6, K6⟩; have r1 := cell_of_blk (K6.blk D.z3 (by simp)) (i := 0) rfl; have r2 := cell_of_blk (K6.blk D.z3 (by simp)) (i := 1) rfl; have r3 := cell_of_blk (K6.blk D.z3 (by simp)) (i := 2) rfl; have r4 := cell_of_blk (K6.blk D.z3 (by simp)) (i := 3) rfl; have g1 := free_of_blk (K6.blk D.z3 (by simp))))
  all_goals
    go_wp2
    first
      | (have F := (D.kept' K5).fin (bo := bo) (m := m) (cb := cb) (h := A) (g := B) (ko := none) (kn := 0) (kc := 0) (MpV.new Q6.out J5) (ks := []) (fun h => absurd h (by simp)) (by simp)
         unfold rEnd at F
         obtain ⟨F1, F2, F3, F5⟩ := F
         have y0 := cell_of_blk F5 (i := 0) rfl
         have y1 := cell_of_blk F5 (i := 1) rfl
         have y2 := cell_of_blk F5 (i := 2) rfl
         have y3 := cell_of_blk F5 (i := 3) rfl
         refine bodyPost_ret (v := .tuple #[.slice bo m cb, .agg #[.bool false, .bool A, .int .u64 B, .slice none 0 0]]) (by simp [results, Try.results30, go_sem, y0, y1, y2, y3]; done) rfl ?_
         exact ⟨bo, m, cb, none, 0, 0, by rw [EE.out.2.1, EE.out.2.2.1], by rw [EE.out.1]; exact F1, by rw [EE.out.2.2.2]; exact rfl, by rw [EE.out.2.2.2]; exact F2, F3⟩)
      | (have F := (D.kept' K6).fin (bo := bo) (m := m) (cb := cb) (h := A) (g := B) (ko := none) (kn := 0) (kc := 0) Q6.out (ks := []) (fun h => absurd h (by simp)) (by simp)
         unfold rEnd at F
         obtain ⟨F1, F2, F3, F5⟩ := F
         have y0 := cell_of_blk F5 (i := 0) rfl
         have y1 := cell_of_blk F5 (i := 1) rfl
         have y2 := cell_of_blk F5 (i := 2) rfl
         have y3 := cell_of_blk F5 (i := 3) rfl
         refine bodyPost_ret (v := .tuple #[.slice bo m cb, .agg #[.bool false, .bool A, .int .u64 B, .slice none 0 0]]) (by simp [results, Try.results30, go_sem, y0, y1, y2, y3]; done) rfl ?_
         exact ⟨bo, m, cb, none, 0, 0, by rw [EE.out.2.1, EE.out.2.2.1], by rw [EE.out.1]; exact F1, by rw [EE.out.2.2.2]; exact rfl, by rw [EE.out.2.2.2]; exact F2, F3⟩)
end Go.Proofs.Ytlmkcakmeldfeaa.Q
namespace Go.Proofs.Ytlmkcakmeldfeaa.Q
set_option maxRecDepth 100000
open Go.RowKit
open Go.Deep
set_option maxHeartbeats 4000000 in
theorem rdo_ceil (ao : Option Addr) (ps : List Pr) (n cap : Nat) (op : OpQ) (w : World) (h : MpV w ao n cap ps) (_hst : Str ps) (hl : n ≤ 1000) (hd : op.d = 4) :
    Calls Try.prog 30 #[.slice ao n cap, .agg #[.int .i64 op.d, .int .u64 op.k, .int .u64 op.v, .int .i64 op.n, .int .i64 op.t]] w fun o w' => RDoP w ps op o w' := by
  have e1 : doM ps op = ps := by unfold doM; rw [if_neg (by omega), if_neg (by omega)]
  have e2 : doH ps op = clH ps op.k := by unfold doH; rw [if_neg (by omega), if_pos hd]
  have e3 : doG ps op = clV ps op.k := by unfold doG; rw [if_neg (by omega), if_pos hd]
  have e4 : doK ps op = [] := by unfold doK; rw [if_neg (by omega)]
  have EE : Hid _ := And.intro e1 (And.intro e2 (And.intro e3 e4))
  clear e1 e2 e3 e4
  obtain ⟨d, k, v, nn, t⟩ := op
  simp only at hd
  subst hd
  have D0 := Rb.new w ⟨4, k, v, nn, t⟩
  have HM : Hid (MpV w ao n cap ps) := h
  clear h
  go_enter Try.func30, Try.ntmps30
  go_wp2
  refine gen_world (fun W => Rb w W w.heap.size ⟨4, k, v, nn, t⟩) D0 ?_
  clear D0
  intro W D
  obtain ⟨H, hH⟩ : ∃ H, H = w.heap.size := ⟨_, rfl⟩
  rw [← hH] at D ⊢
  clear hH
  go_loopw [6] (fun i wr => ∃ j : Nat, j ≤ n ∧ i = .int .i64 j ∧ Hid (nbl (ps.take j) k = []) ∧ Kept [] W wr) (fun i _ => n - (intOf i).toNat)
  case atStart => exact ⟨0, Nat.zero_le _, rfl, rfl, Kept.refl _ _⟩
  case round =>
    obtain ⟨j, hj, rfl, N, K⟩ := hrel
    have D1 := D.kept' K
    have z0 := cell_of_blk D1.z1 (i := 1) rfl
    by_cases hlt : j < n
    · have hjx : j < ps.length := by have := HM.out.1; omega
      obtain ⟨b1, o1, rfl, -, -⟩ := SlP.row (HM.out.2.1.new (D.kept.trans K)) hjx
      have NX : Hid _ := nbl_next (k := k) hjx N.out
      obtain ⟨x, hx0⟩ : ∃ x, ps.getD j default = x := ⟨_, rfl⟩
      rw [hx0] at NX
      have FX : Hid (∀ W', Kept [] W W' → W'.cell? ⟨b1, o1 + j * 2, none⟩ = some (.int .u64 x.k)) := fun W' K' => by
        obtain ⟨b2, o2, e2, -, d0, -⟩ := SlP.row (HM.out.2.1.new (D.kept.trans K')) hjx
        cases e2; rw [hx0] at d0; exact d0
      clear hx0
      have c0 := FX.out wr K
      by_cases hq : k ≤ x.k
      · have hqd : decide (k ≤ x.k) = true := decide_eq_true hq
        have s1 := cell_of_blk D1.z3 (i := 0) rfl
        have s2 := cell_of_blk D1.z3 (i := 1) rfl
        have s3 := cell_of_blk D1.z3 (i := 2) rfl
        have s4 := cell_of_blk D1.z3 (i := 3) rfl
        have f1 := free_of_blk D1.z3
        have hf : (nbl ps k).head? = some x := NX.out.1 hq
        have hcA : clH ps k = true := by unfold clH; rw [hf]; rfl
        have hcB : clV ps k = x.k := by unfold clV; rw [hf]
        simp only [hcA, hcB] at EE
        have HF : Hid _ := And.intro hf (And.intro hcA hcB)
        clear hf hcA hcB
        go_wp2_with fail
        go_quiet (fail)
        have D2 := D1.kept' ((Kept.refl [] wr).drewN nq)
        have K2 := K.drewN nq
        generalize wr.drewN nq = W2 at D2 K2 ⊢
        clear s1 s2 s3 s4 f1 c0 nq
        have c0 := FX.out W2 K2
        have s1 := cell_of_blk D2.z3 (i := 0) rfl
        have s2 := cell_of_blk D2.z3 (i := 1) rfl
        have s3 := cell_of_blk D2.z3 (i := 2) rfl
        have s4 := cell_of_blk D2.z3 (i := 3) rfl
        have f1 := free_of_blk D2.z3
        go_wp2_with fail
        go_region
        all_goals
          go_wp2
          have F := D2.fin (bo := (some ⟨b1, o1, none⟩)) (m := n) (cb := cap) (h := true) (g := x.k) (ko := none) (kn := 0) (kc := 0) (MpV.new HM.out (D.kept.trans K2)) (ks := []) (fun h => absurd h (by simp)) (by simp)
          have F1 : MpV (rEnd W2 H true x.k none 0 0).drew (some ⟨b1, o1, none⟩) n cap ps := F.1
          have F2 := F.2.1.new ((Kept.refl [] _).drew)
          have F3 := F.2.2.1.drew
          have F5 : (rEnd W2 H true x.k none 0 0).drew.heap[H + 1]? = some (.cells #[.bool false, .bool true, .int .u64 x.k, .slice none 0 0] 46 (0, 0)) := F.2.2.2
          clear F
          unfold rEnd at F1 F2 F3 F5
          have y0 := cell_of_blk F5 (i := 0) rfl
          have y1 := cell_of_blk F5 (i := 1) rfl
          have y2 := cell_of_blk F5 (i := 2) rfl
          have y3 := cell_of_blk F5 (i := 3) rfl
          refine bodyPost_ret (v := .tuple #[.slice (some ⟨b1, o1, none⟩) n cap, .agg #[.bool false, .bool true, .int .u64 x.k, .slice none 0 0]]) (by simp [results, Try.results30, go_sem, y0, y1, y2, y3]; done) rfl ?_
          exact ⟨(some ⟨b1, o1, none⟩), n, cap, none, 0, 0, by rw [EE.out.2.1, EE.out.2.2.1], by rw [EE.out.1]; exact F1, by rw [EE.out.2.2.2]; exact rfl, by rw [EE.out.2.2.2]; exact F2, F3⟩
      · have hqd : decide (k ≤ x.k) = false := decide_eq_false hq
        go_wp2_with fail
        go_quiet (fail)
        go_wp2
        go_roundw
        case rel => exact ⟨j + 1, by omega, by go_num, NX.out.2 hq, K.drewN _⟩
        case measure => simp [intOf]; omega
    · have e2 : ps.take j = ps := List.take_of_length_le (by have := HM.out.1; omega)
      rw [e2] at N
      have hf : nbl ps k = [] := N.out
      have hcA : clH ps k = false := by unfold clH; rw [hf]; rfl
      have hcB : clV ps k = 0 := by unfold clV; rw [hf]; rfl
      simp only [hcA, hcB] at EE
      have s1 := cell_of_blk D1.z3 (i := 0) rfl
      have s2 := cell_of_blk D1.z3 (i := 1) rfl
      have s3 := cell_of_blk D1.z3 (i := 2) rfl
      have s4 := cell_of_blk D1.z3 (i := 3) rfl
      have f1 := free_of_blk D1.z3
      clear hf hcA hcB
      go_wp2
      have F := D1.fin (bo := ao) (m := n) (cb := cap) (h := false) (g := 0) (ko := none) (kn := 0) (kc := 0) (MpV.new HM.out (D.kept.trans K)) (ks := []) (fun h => absurd h (by simp)) (by simp)
      unfold rEnd at F
      obtain ⟨F1, F2, F3, F5⟩ := F
      have y0 := cell_of_blk F5 (i := 0) rfl
      have y1 := cell_of_blk F5 (i := 1) rfl
      have y2 := cell_of_blk F5 (i := 2) rfl
      have y3 := cell_of_blk F5 (i := 3) rfl
      refine bodyPost_ret (v := .tuple #[.slice ao n cap, .agg #[.bool false, .bool false, .int .u64 0, .slice none 0 0]]) (by simp [results, Try.results30, go_sem, y0, y1, y2, y3]; done) rfl ?_
      exact ⟨ao, n, cap, none, 0, 0, by rw [EE.out.2.1, EE.out.2.2.1], by rw [EE.out.1]; exact F1, by rw [EE.out.2.2.2]; exact rfl, by rw [EE.out.2.2.2]; exact F2, F3⟩
end Go.Proofs.Ytlmkcakmeldfeaa.Q
namespace Go.Proofs.Ytlmkcakmeldfeaa.Q
set_option maxRecDepth 100000
open Go.RowKit
open Go.Deep
set_option maxHeartbeats 4000000 in
theorem rdo_range (ao : Option Addr) (ps : List Pr) (n cap : Nat) (op : OpQ) (w : World) (h : MpV w ao n cap ps) (_hst : Str ps) (hl : n ≤ 1000) (hd : op.d = 5) :
    Calls Try.prog 30 #[.slice ao n cap, .agg #[.int .i64 op.d, .int .u64 op.k, .int .u64 op.v, .int .i64 op.n, .int .i64 op.t]] w fun o w' => RDoP w ps op o w' := by
  have e1 : doM ps op = ps := by unfold doM; rw [if_neg (by omega), if_neg (by omega)]
  have e2 : doH ps op = false := by unfold doH; rw [if_neg (by omega), if_neg (by omega)]
  have e3 : doG ps op = 0 := by unfold doG; rw [if_neg (by omega), if_neg (by omega)]
  have e4 : doK ps op = rgK ps op.k op.v op.n := by unfold doK; rw [if_pos hd]
  have EE : Hid _ := And.intro e1 (And.intro e2 (And.intro e3 e4))
  clear e1 e2 e3 e4
  obtain ⟨d, k, v, nn, t⟩ := op
  simp only at hd
  subst hd
  have D0 := Rb.new w ⟨5, k, v, nn, t⟩
  have HM : Hid (MpV w ao n cap ps) := h
  clear h
  obtain ⟨i0, hi, hz0, hz1, hz2⟩ := info_parts info_u64
  go_enter Try.func30, Try.ntmps30
  go_wp2
  obtain ⟨W, hW⟩ : ∃ W, W = ((w.alloc (.cells #[.int .i64 5, .int .u64 k, .int .u64 v, .int .i64 nn, .int .i64 t] 43)).alloc (.cells #[.bool false, .bool false, .int .u64 0, .slice none 0 0] 46)) := ⟨_, rfl⟩
  obtain ⟨H, hH⟩ : ∃ H, H = w.heap.size := ⟨_, rfl⟩
  have D : Rb w W H ⟨5, k, v, nn, t⟩ := by rw [hW, hH]; exact D0
  have hWs : W.heap.size = H + 1 + 1 := by rw [hW, hH]; simp only [nblk_alloc]
  have ZB := blk_alloc_new W (.cells #[.bool false, .bool false, .int .u64 0, .slice none 0 0] 46)
  rw [hWs] at ZB
  have KB : Kept [] W (W.alloc (.cells #[.bool false, .bool false, .int .u64 0, .slice none 0 0] 46)) := (Kept.refl _ _).alloc _
  have DB := D.kept' KB
  have hBs : (W.alloc (.cells #[.bool false, .bool false, .int .u64 0, .slice none 0 0] 46)).heap.size = H + 1 + 1 + 1 := by rw [nblk_alloc, hWs]
  rw [← hW, ← hH]
  generalize W.alloc (.cells #[.bool false, .bool false, .int .u64 0, .slice none 0 0] 46) = U at ZB DB hBs ⊢
  clear D0 hW D KB hWs W
  have HHs : Hid _ := hBs
  clear hBs hH
  go_loopw [8] (fun i wr => ∃ (j : Nat) (ko : Option Addr) (kn kc : Nat), j ≤ n ∧ i = .int .i64 j ∧ wr.heap[H + 1 + 1]? = some (.cells #[.bool false, .bool false, .int .u64 0, .slice ko kn kc] 46 (0, 0)) ∧ Hid (kn = (rgK (ps.take j) k v nn).length ∧ OwnW wr (H + 1 + 1 + 1) (.slice ko kn kc) (rgK (ps.take j) k v nn)) ∧ Kept [H + 1 + 1] U wr) (fun i _ => n - (intOf i).toNat)
  case atStart => exact ⟨0, none, 0, 0, Nat.zero_le _, rfl, ZB, ⟨by simp [rgK, nbl], ⟨by simp, Or.inl ⟨rfl, by simp [rgK, nbl]⟩⟩⟩, Kept.refl _ _⟩
  case round =>
    obtain ⟨j, ko, kn, kc, hj, rfl, Z, O, K⟩ := hrel
    have KD : Hid (∀ W', Kept [H + 1 + 1] U W' → Rb w W' H ⟨5, k, v, nn, t⟩) := fun W' K' =>
      ⟨K'.blk DB.z1 (by simp; omega), K'.blk DB.z3 (by simp), DB.kept.then K' (by intro x hx; right; have := DB.le; simp at hx; omega), DB.le⟩
    have MX : Hid (∀ W', Kept [H + 1 + 1] U W' → MpV W' ao n cap ps) := fun W' K' => MpV.new HM.out (KD.out W' K').kept
    by_cases hlt : j < n
    · have hjx : j < ps.length := by have := HM.out.1; omega
      obtain ⟨b1, o1, rfl, -, -⟩ := SlP.row (MX.out wr K).2.1 hjx
      have NX : Hid _ := rgK_next (a := k) (b := v) (n := nn) hjx
      obtain ⟨x, hx0⟩ : ∃ x, ps.getD j default = x := ⟨_, rfl⟩
      rw [hx0] at NX
      have FX : Hid (∀ W', Kept [H + 1 + 1] U W' → W'.cell? ⟨b1, o1 + j * 2, none⟩ = some (.int .u64 x.k) ∧ W'.cell? ⟨H, 1, none⟩ = some (.int .u64 k) ∧ W'.cell? ⟨H, 2, none⟩ = some (.int .u64 v) ∧ W'.cell? ⟨H, 3, none⟩ = some (.int .i64 nn)) := fun W' K' => by
        obtain ⟨b2, o2, e2, -, d0, -⟩ := SlP.row (MX.out W' K').2.1 hjx
        cases e2; rw [hx0] at d0
        have D2 := KD.out W' K'
        exact ⟨d0, cell_of_blk D2.z1 (i := 1) rfl, cell_of_blk D2.z1 (i := 2) rfl, cell_of_blk D2.z1 (i := 3) rfl⟩
      clear hx0
      have KL := O.out.1
      rw [← KL] at NX
      have HKL : Hid _ := KL
      clear KL
      have c0 := (FX.out wr K).1
      have c1 := (FX.out wr K).2.1
      have c2 := (FX.out wr K).2.2.1
      have c3 := (FX.out wr K).2.2.2
      have q3 := cell_of_blk Z (i := 3) rfl
      by_cases g1 : k ≤ x.k
      · have t1 : decide (k ≤ x.k) = true := decide_eq_true g1
        by_cases g2 : x.k ≤ v
        · have t2 : decide (x.k ≤ v) = true := decide_eq_true g2
          by_cases g3 : (kn : Int) < nn
          · have t3 : decide ((kn : Int) < nn) = true := decide_eq_true g3
            have EQ : Hid _ := NX.out.1 ⟨g1, g2, g3⟩
            go_wp2_with fail
            go_quiet (fail)
            have K2 := K.drewN nq
            have Z2 := ((Kept.refl [] wr).drewN nq).blk Z (by simp)
            have O2 := OwnW.new O.out.2 ((Kept.refl [] wr).drewN nq)
            generalize wr.drewN nq = W2 at K2 Z2 O2 ⊢
            clear c0 c1 c2 c3 q3 nq K Z
            have c0 := (FX.out W2 K2).1
            have q3 := cell_of_blk Z2 (i := 3) rfl
            have hB3 : H + 1 + 1 + 1 ≤ W2.heap.size := by rw [← HHs.out]; exact K2.size
            have hB4 : H + 1 + 1 < W2.heap.size := by omega
            have hB5 : ¬ H + 1 + 1 = W2.heap.size := by omega
            have hB6 : ¬ W2.heap.size = H + 1 + 1 := by omega
            have hb7 : b1 < W2.heap.size := lt_of_cell c0
            have hkn : kn ≤ 1000 := by rw [HKL.out]; unfold rgK nbl; rw [List.length_take, List.length_map]; have a1 := List.length_filter_le (fun p : Pr => decide (p.k ≤ v)) ((ps.take j).filter (fun q => decide (k ≤ q.k))); have a2 := List.length_filter_le (fun q : Pr => decide (k ≤ q.k)) (ps.take j); rw [List.length_take] at a2; omega
            have hrl : (rgK (ps.take j) k v nn).length ≤ 1000 := by rw [← HKL.out]; exact hkn
            generalize rgK (ps.take j) k v nn = R at O2 hrl EQ
            go_wp2_with fail
            go_region_law ((refine step_append_lies _ (by rfl) _ _ 44 (by rfl) (H + 1 + 1 + 1) 41 i0 (.int .u64 0) 1 8 Try.underlying44 hi hz0 hz1 hz2 rfl (by decide) _ _ _ (by rfl) (OwnW.new O2 (by (repeat (first | (with_reducible refine Kept.alloc ?_ _) | (with_reducible refine Kept.drew ?_))); exact Kept.refl _ _)) ⟨W2.heap.size, 0, none⟩ 1 1 [.int .u64 x.k] (by rfl) rfl (World.news_of_block (blk_alloc_new _ _)) (by simp [Value.oneCell']) (by omega) (by unfold maxLen; omega) (by omega) (by simp; omega) _ rfl ?_; intro g cap' w3 hown hgrow hat hlt2; have Z3 := grow_keep (by (repeat (first | (with_reducible refine Kept.alloc ?_ _) | (with_reducible refine Kept.drew ?_))); exact Kept.refl _ _) hgrow O2 (by omega) Z2; have q4 := cell_of_blk Z3 (i := 3) rfl; have f4 := free_of_blk Z3 3; have K3 := grow_kept K2 (by (repeat (first | (with_reducible refine Kept.alloc ?_ _) | (with_reducible refine Kept.drew ?_))); exact Kept.refl _ _) hgrow (by rw [HHs.out]; exact O2)))
            all_goals
              go_wp2
              refine ⟨⟨j + 1, _, _, _, by omega, by go_num, blk_set Z3 3 _, ⟨?_, ?_⟩, K3.setCell (p := ⟨H + 1 + 1, 3, none⟩) (Or.inl (by simp)) _⟩, by simp [intOf]; omega⟩
              · rw [EQ.out]; simp
              · rw [EQ.out]
                have O4 : OwnW w3 (H + 1 + 1 + 1) (.slice (some ⟨g, 0, none⟩) (R.length + 1) cap') (R ++ [x.k]) := by unfold OwnW; rw [List.length_append, List.map_append]; exact hown
                exact O4.kept ((Kept.refl [H + 1 + 1] w3).setCell (p := ⟨H + 1 + 1, 3, none⟩) (Or.inl (by simp)) _) (fun g' e => by have := (World.ownsRow.lt O4 g' e).1; simp; omega)
          · have t3 : decide ((kn : Int) < nn) = false := decide_eq_false g3
            have EQ : Hid _ := NX.out.2 (by omega)
            go_wp2_with fail
            go_quiet (fail)
            go_wp2
            go_roundw
            case rel => exact ⟨j + 1, ko, kn, kc, by omega, by go_num, ((Kept.refl [] wr).drewN nq).blk Z (by simp), (by rw [EQ.out]; exact ⟨O.out.1, O.out.2.new ((Kept.refl [] wr).drewN nq)⟩), K.drewN _⟩
            case measure => simp [intOf]; omega
        · have t2 : decide (x.k ≤ v) = false := decide_eq_false g2
          have EQ : Hid _ := NX.out.2 (by omega)
          go_wp2_with fail
          go_quiet (fail)
          go_wp2
          go_roundw
          case rel => exact ⟨j + 1, ko, kn, kc, by omega, by go_num, ((Kept.refl [] wr).drewN nq).blk Z (by simp), (by rw [EQ.out]; exact ⟨O.out.1, O.out.2.new ((Kept.refl [] wr).drewN nq)⟩), K.drewN _⟩
          case measure => simp [intOf]; omega
      · have t1 : decide (k ≤ x.k) = false := decide_eq_false g1
        have EQ : Hid _ := NX.out.2 (by omega)
        go_wp2_with fail
        go_quiet (fail)
        go_wp2
        go_roundw
        case rel => exact ⟨j + 1, ko, kn, kc, by omega, by go_num, ((Kept.refl [] wr).drewN nq).blk Z (by simp), (by rw [EQ.out]; exact ⟨O.out.1, O.out.2.new ((Kept.refl [] wr).drewN nq)⟩), K.drewN _⟩
        case measure => simp [intOf]; omega
    · have e2 : ps.take j = ps := List.take_of_length_le (by have := HM.out.1; omega)
      rw [e2] at O
      have D1 := KD.out wr K
      have q0 := cell_of_blk Z (i := 0) rfl
      have q1 := cell_of_blk Z (i := 1) rfl
      have q2 := cell_of_blk Z (i := 2) rfl
      have q3 := cell_of_blk Z (i := 3) rfl
      have s1 := cell_of_blk D1.z3 (i := 0) rfl
      have s2 := cell_of_blk D1.z3 (i := 1) rfl
      have s3 := cell_of_blk D1.z3 (i := 2) rfl
      have s4 := cell_of_blk D1.z3 (i := 3) rfl
      have f1 := free_of_blk D1.z3
      obtain ⟨k2, c2, eS, SL, hbk⟩ := O.out.2.shape
      have hko : ko = k2 := by cases eS; rfl
      rw [← hko] at SL hbk
      have MM := MX.out wr K
      have HX : Hid _ := And.intro SL (And.intro hbk MM)
      clear eS SL hbk hko MM
      go_wp2_with fail
      go_region
      all_goals
        go_wp2
        have F := D1.fin (bo := ao) (m := n) (cb := cap) (h := false) (g := 0) (ko := ko) (kn := kn) (kc := kc) HX.out.2.2 HX.out.1 (fun ad e => by have := HX.out.2.1 ad e; omega)
        have F1 : MpV (rEnd wr H false 0 ko kn kc).drew ao n cap ps := F.1
        have F2 := F.2.1.new ((Kept.refl [] _).drew)
        have F3 := F.2.2.1.drew
        have F5 : (rEnd wr H false 0 ko kn kc).drew.heap[H + 1]? = some (.cells #[.bool false, .bool false, .int .u64 0, .slice ko kn kc] 46 (0, 0)) := F.2.2.2
        clear F
        unfold rEnd at F1 F2 F3 F5
        have y0 := cell_of_blk F5 (i := 0) rfl
        have y1 := cell_of_blk F5 (i := 1) rfl
        have y2 := cell_of_blk F5 (i := 2) rfl
        have y3 := cell_of_blk F5 (i := 3) rfl
        refine bodyPost_ret (v := .tuple #[.slice ao n cap, .agg #[.bool false, .bool false, .int .u64 0, .slice ko kn kc]]) (by simp [results, Try.results30, go_sem, y0, y1, y2, y3]; done) rfl ?_
        exact ⟨ao, n, cap, ko, kn, kc, by rw [EE.out.2.1, EE.out.2.2.1], by rw [EE.out.1]; exact F1, by rw [EE.out.2.2.2]; exact O.out.1, by rw [EE.out.2.2.2]; exact F2, F3⟩
end Go.Proofs.Ytlmkcakmeldfeaa.Q
namespace Go.Proofs.Ytlmkcakmeldfeaa.Q
set_option maxRecDepth 100000
open Go.RowKit
open Go.Deep
set_option maxHeartbeats 4000000 in
theorem rdo_none (ao : Option Addr) (ps : List Pr) (n cap : Nat) (op : OpQ) (w : World) (h : MpV w ao n cap ps) (_hst : Str ps) (_hl : n ≤ 1000) (hd : ¬ (op.d = 1 ∨ op.d = 2 ∨ op.d = 3 ∨ op.d = 4 ∨ op.d = 5)) :
    Calls Try.prog 30 #[.slice ao n cap, .agg #[.int .i64 op.d, .int .u64 op.k, .int .u64 op.v, .int .i64 op.n, .int .i64 op.t]] w fun o w' => RDoP w ps op o w' := by
  have e1 : doM ps op = ps := by unfold doM; rw [if_neg (by omega), if_neg (by omega)]
  have e2 : doH ps op = false := by unfold doH; rw [if_neg (by omega), if_neg (by omega)]
  have e3 : doG ps op = 0 := by unfold doG; rw [if_neg (by omega), if_neg (by omega)]
  have e4 : doK ps op = [] := by unfold doK; rw [if_neg (by omega)]
  have EE : Hid _ := And.intro e1 (And.intro e2 (And.intro e3 e4))
  clear e1 e2 e3 e4
  obtain ⟨d, k, v, nn, t⟩ := op
  simp only at hd
  have n1 : ¬ d = 1 := by omega
  have n2 : ¬ d = 2 := by omega
  have n3 : ¬ d = 3 := by omega
  have n4 : ¬ d = 4 := by omega
  have n5 : ¬ d = 5 := by omega
  have HM : Hid (MpV w ao n cap ps) := h
  clear h hd
  go_enter Try.func30, Try.ntmps30
  go_wp2
  have KF : Kept [] w ((w.alloc (.cells #[.int .i64 d, .int .u64 k, .int .u64 v, .int .i64 nn, .int .i64 t] 43)).alloc (.cells #[.bool false, .bool false, .int .u64 0, .slice none 0 0] 46)) := ((Kept.refl _ _).alloc _).alloc _
  refine bodyPost_ret (v := .tuple #[.slice ao n cap, .agg #[.bool false, .bool false, .int .u64 0, .slice none 0 0]]) (by simp [results, Try.results30, go_sem]) rfl ?_
  exact ⟨ao, n, cap, none, 0, 0, by rw [EE.out.2.1, EE.out.2.2.1], by rw [EE.out.1]; exact MpV.new HM.out KF, by rw [EE.out.2.2.2]; rfl, by rw [EE.out.2.2.2]; exact fun h => absurd h (by simp), KF⟩
end Go.Proofs.Ytlmkcakmeldfeaa.Q
namespace Go.Proofs.Ytlmkcakmeldfeaa.Q
open Go.RowKit
open Go.Deep
theorem rdo_any (ao : Option Addr) (ps : List Pr) (n cap : Nat) (op : OpQ) (w : World) (h : MpV w ao n cap ps) (hst : Str ps) (hl : n ≤ 1000) :
    Calls Try.prog 30 #[.slice ao n cap, .agg #[.int .i64 op.d, .int .u64 op.k, .int .u64 op.v, .int .i64 op.n, .int .i64 op.t]] w fun o w' => RDoP w ps op o w' := by
  by_cases h1 : op.d = 1
  · exact rdo_get ao ps n cap op w h hst hl h1
  · by_cases h2 : op.d = 2
    · exact rdo_put ao ps n cap op w h hst hl h2
    · by_cases h3 : op.d = 3
      · exact rdo_del ao ps n cap op w h hst hl h3
      · by_cases h4 : op.d = 4
        · exact rdo_ceil ao ps n cap op w h hst hl h4
        · by_cases h5 : op.d = 5
          · exact rdo_range ao ps n cap op w h hst hl h5
          · exact rdo_none ao ps n cap op w h hst hl (by omega)
end Go.Proofs.Ytlmkcakmeldfeaa.Q
