/-
  The document's own ops of a map: what is common to all kinds.
-/
import Derived.Test.YtapbkonfjieadaaQRef2
import Derived.Test.YtapbkonfjieadaaQDo
namespace Go.Proofs.Ytapbkonfjieadaa.Q
set_option maxRecDepth 100000
open Go.RowKit
open Go.Deep
/-- What the document's op leaves, and tells. -/
def RDoP (w : World) (ps : List Pr) (op : OpQ) (o : Ending) (w' : World) : Prop := ∃ bo m cb ko kn kc, o = .returned (.tuple #[.slice bo m cb, .agg #[.bool false, .bool (doH ps op), .int .u64 (doG ps op), .slice ko kn kc]]) ∧ MpV w' bo m cb (doM ps op) ∧ kn = (doK ps op).length ∧ Sl w' ko (doK ps op) ∧ Kept [] w w'
structure Rb (w W : World) (H : Nat) (o : OpQ) : Prop where
  z1 : W.heap[H]? = some (.cells #[.int .i64 o.d, .int .u64 o.k, .int .u64 o.v, .int .i64 o.n, .int .i64 o.t] 38 (0, 0))
  z3 : W.heap[H + 1]? = some (.cells #[.bool false, .bool false, .int .u64 0, .slice none 0 0] 41 (0, 0))
  kept : Kept [] w W
  le : w.heap.size ≤ H
theorem Rb.kept' {w W W' : World} {H : Nat} {o : OpQ} (h : Rb w W H o) (k : Kept [] W W') : Rb w W' H o :=
  ⟨k.blk h.z1 (by simp), k.blk h.z3 (by simp), h.kept.trans k, h.le⟩
theorem Rb.new (w : World) (o : OpQ) : Rb w ((w.alloc (.cells #[.int .i64 o.d, .int .u64 o.k, .int .u64 o.v, .int .i64 o.n, .int .i64 o.t] 38)).alloc (.cells #[.bool false, .bool false, .int .u64 0, .slice none 0 0] 41)) w.heap.size o := by
  refine ⟨box_alloc (blk_alloc_new _ _) _, ?_, ((Kept.refl _ _).alloc _).alloc _, Nat.le_refl _⟩
  have := blk_alloc_new (w.alloc (.cells #[.int .i64 o.d, .int .u64 o.k, .int .u64 o.v, .int .i64 o.n, .int .i64 o.t] 38)) (.cells #[.bool false, .bool false, .int .u64 0, .slice none 0 0] 41)
  simp only [nblk_alloc] at this; exact this
def rEnd (W : World) (H : Nat) (h : Bool) (g : Int) (ko : Option Addr) (kn kc : Nat) : World :=
  (((W.setCell ⟨H + 1, 0, none⟩ (.bool false)).setCell ⟨H + 1, 1, none⟩ (.bool h)).setCell ⟨H + 1, 2, none⟩ (.int .u64 g)).setCell ⟨H + 1, 3, none⟩ (.slice ko kn kc)
theorem Rb.fin {w W : World} {H : Nat} {op : OpQ} (D : Rb w W H op) {ps : List Pr} {bo : Option Addr} {m cb : Nat} {h : Bool} {g : Int} {ko : Option Addr} {kn kc : Nat} (M : MpV W bo m cb ps) {ks : List Int} (S : Sl W ko ks) (hk : ∀ ad, ko = some ad → H + 1 + 1 ≤ ad.block) :
    MpV (rEnd W H h g ko kn kc) bo m cb ps ∧ Sl (rEnd W H h g ko kn kc) ko ks ∧ Kept [] w (rEnd W H h g ko kn kc) ∧ (rEnd W H h g ko kn kc).heap[H + 1]? = some (.cells #[.bool false, .bool h, .int .u64 g, .slice ko kn kc] 41 (0, 0)) := by
  have e1 := blk_set D.z3 0 (.bool false)
  have e2 := blk_set e1 1 (.bool h)
  have e3 := blk_set e2 2 (.int .u64 g)
  have e4 := blk_set e3 3 (.slice ko kn kc)
  have KK : Kept [H + 1] W (rEnd W H h g ko kn kc) := by
    unfold rEnd
    exact ((((Kept.refl _ W).setCell (p := ⟨H + 1, 0, none⟩) (Or.inl (by simp)) _).setCell (p := ⟨H + 1, 1, none⟩) (Or.inl (by simp)) _).setCell (p := ⟨H + 1, 2, none⟩) (Or.inl (by simp)) _).setCell (p := ⟨H + 1, 3, none⟩) (Or.inl (by simp)) _
  refine ⟨⟨M.1, ?_, M.2.2⟩, S.kept KK (fun ad e => by have := hk ad e; simp; omega), D.kept.then KK (by intro x hx; right; have := D.le; simp at hx; omega), e4⟩
  exact SlP.setAns (SlP.setAns (SlP.setAns (SlP.setAns M.2.1 D.z3 0 _) e1 1 _) e2 2 _) e3 3 _
/-- Words in a row of their own. -/
def OwnW (w : World) (base : Nat) (v : Value) (ks : List Int) : Prop := w.ownsRow base 36 1 v ks.length (ks.map (Value.int .u64))
theorem OwnW.kept {l : List Nat} {w w' : World} {base : Nat} {v : Value} {es : List Int} (h : OwnW w base v es) (k : Kept l w w') (hn : ∀ g, v.ownBlock = some g → g ∉ l) : OwnW w' base v es := by
  obtain ⟨h1, h2 | ⟨g, cap, cur, rfl, hb, hg, hr⟩⟩ := h
  · exact ⟨h1, Or.inl h2⟩
  · exact ⟨h1, Or.inr ⟨g, cap, cur, rfl, hb, k.blk hg (hn g rfl), hr⟩⟩
theorem OwnW.new {w w' : World} {base : Nat} {v : Value} {es : List Int} (h : OwnW w base v es) (k : Kept [] w w') : OwnW w' base v es := h.kept k (by simp)
theorem OwnW.shape {w : World} {base : Nat} {v : Value} {es : List Int} (h : OwnW w base v es) : ∃ ao cap, v = .slice ao es.length cap ∧ Sl w ao es ∧ ∀ ad, ao = some ad → base ≤ ad.block := by
  obtain ⟨h1, ⟨rfl, h0⟩ | ⟨g, cap, cur, rfl, hb, hg, hnc, hcm, hsz, htk⟩⟩ := h
  · have : es = [] := List.eq_nil_of_length_eq_zero h0
    subst this
    exact ⟨none, 0, rfl, fun h => absurd h (by simp), by simp⟩
  · refine ⟨_, cap, rfl, fun _ => ⟨_, rfl, fun i hi => ?_⟩, by intro ad e; cases e; exact hb⟩
    rw [addr_add0]
    refine cell_of_blk hg ?_
    have q : (es.map (Value.int .u64))[i]? = some (.int .u64 es[i]) := by simp [hi]
    rw [← htk, List.getElem?_take] at q
    split at q
    · rw [← Array.getElem?_toList]; exact q
    · cases q
/-- What is elder than a row is as it was, behind an append to the row. -/
theorem grow_keep {W X w3 : World} {base B : Nat} {v : Value} {R : List Int} {o : Obj} (K : Kept [] W X) (hg : X.grownBy w3 v.ownBlock) (O : OwnW W base v R) (hB : B < base) (Z : W.heap[B]? = some o) : w3.heap[B]? = some o := by
  refine (hg.block B (Nat.lt_of_lt_of_le (lt_of_blk Z) K.size) (fun e => ?_)).trans (K.blk Z (by simp))
  have := (World.ownsRow.lt O B e.symm).1; omega
theorem grow_kept {U W X w3 : World} {l : List Nat} {v : Value} {R : List Int} (K : Kept l U W) (K2 : Kept [] W X) (hg : X.grownBy w3 v.ownBlock) (O : OwnW W U.heap.size v R) : Kept l U w3 :=
  (K.then K2 (by simp)).then (m := v.ownBlock.toList) ⟨hg.os, hg.tape, hg.output, hg.size, fun i hi hn => hg.block i hi (fun e => hn (by rw [← e]; simp))⟩ (by
    intro x hx; right; exact (World.ownsRow.lt O x (by simpa using hx)).1)
/-- The first that is not below k. -/
theorem nbl_next {ps : List Pr} {i : Nat} {k : Int} (h : i < ps.length) (h1 : nbl (ps.take i) k = []) : (k ≤ (ps.getD i default).k → (nbl ps k).head? = some (ps.getD i default)) ∧ (¬ k ≤ (ps.getD i default).k → nbl (ps.take (i + 1)) k = []) := by
  have e : ps = ps.take i ++ (ps.getD i default :: ps.drop (i + 1)) := by
    conv => lhs; rw [← List.take_append_drop i ps]
    congr 1
    rw [List.drop_eq_getElem_cons h]
    simp [h]
  unfold nbl at h1 ⊢
  constructor
  · intro q
    conv => lhs; rw [e]
    rw [List.filter_append, h1, List.nil_append, List.filter_cons_of_pos (by simpa using q)]; rfl
  · intro q
    rw [take_next h default, filter_snoc, h1, if_neg (by simpa using q)]; rfl
/-- One more of a range. -/
theorem rgK_next {ps : List Pr} {i : Nat} {a b n : Int} (h : i < ps.length) :
    ((a ≤ (ps.getD i default).k ∧ (ps.getD i default).k ≤ b ∧ ((rgK (ps.take i) a b n).length : Int) < n) → rgK (ps.take (i + 1)) a b n = rgK (ps.take i) a b n ++ [(ps.getD i default).k]) ∧
    (¬ (a ≤ (ps.getD i default).k ∧ (ps.getD i default).k ≤ b ∧ ((rgK (ps.take i) a b n).length : Int) < n) → rgK (ps.take (i + 1)) a b n = rgK (ps.take i) a b n) := by
  unfold rgK nbl
  rw [take_next h default]
  generalize ps.getD i default = x
  rw [filter_snoc]
  by_cases q1 : a ≤ x.k
  · rw [if_pos (by simpa using q1), filter_snoc]
    by_cases q2 : x.k ≤ b
    · rw [if_pos (by simpa using q2), List.map_append]
      generalize (((ps.take i).filter (fun q => decide (a ≤ q.k))).filter (fun p => decide (p.k ≤ b))).map Pr.k = L
      constructor
      · rintro ⟨_, _, h3⟩
        rw [List.length_take] at h3
        rw [List.take_of_length_le (by simp; omega), List.take_of_length_le (by omega)]; rfl
      · intro h4
        have h5 : n.toNat ≤ L.length := by
          rw [List.length_take] at h4
          have : ¬ ((min n.toNat L.length : Nat) : Int) < n := fun h => h4 ⟨q1, q2, h⟩
          omega
        rw [List.take_append_of_le_length h5]
    · rw [if_neg (by simpa using q2), List.append_nil]
      exact ⟨fun h => absurd h.2.1 q2, fun _ => rfl⟩
  · rw [if_neg (by simpa using q1), List.append_nil]
    exact ⟨fun h => absurd h.1 q1, fun _ => rfl⟩
end Go.Proofs.Ytapbkonfjieadaa.Q
