/-
  The contract of an op of a map.
-/
import Derived.Test.YtapbkonfjieadaaQKeys
namespace Go.Proofs.Ytapbkonfjieadaa.Q
set_option maxRecDepth 100000
open Go.RowKit
open Go.Deep
/-- The least key that is not below k. -/
def clH (ps : List Pr) (k : Int) : Bool := (nbl ps k).head?.isSome
def clV (ps : List Pr) (k : Int) : Int := match (nbl ps k).head? with | some p => p.k | none => 0
/-- All keys are words. -/
def Wd (ps : List Pr) : Prop := ∀ x ∈ ps, x.k ≤ 18446744073709551615
theorem rgK_one {ps : List Pr} (h : Wd ps) (k : Int) : rgK ps k 18446744073709551615 1 = ((nbl ps k).head?.map Pr.k).toList := by
  unfold rgK
  rw [List.filter_eq_self.2 (fun x hx => by simpa using h x (mem_nbl.1 hx).1)]
  rw [show (1 : Int).toNat = 1 from rfl, List.take_one, List.head?_map]
set_option maxHeartbeats 1000000 in
theorem ceiling_any (ao : Option Addr) (ps : List Pr) (n cap : Nat) (k : Int) (w : World) (h : MpV w ao n cap ps) (hst : Str ps) (hw : Wd ps) (hl : n ≤ 1000) :
    Calls Try.prog 32 #[.agg #[.slice ao n cap], .int .u64 k] w fun o w' => o = .returned (.agg #[.bool false, .bool (clH ps k), .int .u64 (clV ps k), .slice none 0 0]) ∧ Kept [] w w' := by
  have K0 : Kept [] w ((w.alloc (.cells #[.slice ao n cap] 26)).alloc (.cells #[.bool false, .bool false, .int .u64 0, .slice none 0 0] 41)) := ((Kept.refl _ _).alloc _).alloc _
  have Z0 := blk_alloc_new (w.alloc (.cells #[.slice ao n cap] 26)) (.cells #[.bool false, .bool false, .int .u64 0, .slice none 0 0] 41)
  rw [nblk_alloc] at Z0
  have hc := keys_any ao ps n cap k 18446744073709551615 1 _ (h.new K0) hst hl
  clear h
  go_enter Try.func32, Try.ntmps32
  go_wp2_with fail
  refine hc.mono ?_
  rintro o w1 ⟨ko, kn, kc, rfl, ek, S1, _, K1⟩
  have Z1 := K1.blk Z0 (by simp)
  have KT := K0.trans K1
  have q0 := cell_of_blk Z1 (i := 0) rfl
  have q1 := cell_of_blk Z1 (i := 1) rfl
  have q2 := cell_of_blk Z1 (i := 2) rfl
  have q3 := cell_of_blk Z1 (i := 3) rfl
  have fr := free_of_blk Z1
  rw [rgK_one hw] at ek S1
  clear hc K0 K1 Z0
  cases hf : (nbl ps k).head? with
  | none =>
    rw [hf] at ek S1
    simp at ek
    subst ek
    clear S1
    go_wp2
    have Z5 := blk_set (blk_set (blk_set (blk_set Z1 0 (.bool false)) 1 (.bool false)) 2 (.int .u64 0)) 3 (.slice none 0 0)
    have y0 := cell_of_blk Z5 (i := 0) rfl
    have y1 := cell_of_blk Z5 (i := 1) rfl
    have y2 := cell_of_blk Z5 (i := 2) rfl
    have y3 := cell_of_blk Z5 (i := 3) rfl
    exact bodyPost_ret (v := .agg #[.bool false, .bool false, .int .u64 0, .slice none 0 0]) (by simp [results, Try.results32, go_sem, y0, y1, y2, y3]) rfl ⟨by unfold clH clV; rw [hf]; rfl, (((KT.setCell (Or.inr (Nat.le_succ _)) _).setCell (Or.inr (Nat.le_succ _)) _).setCell (Or.inr (Nat.le_succ _)) _).setCell (Or.inr (Nat.le_succ _)) _⟩
  | some p =>
    rw [hf] at ek S1
    simp at ek
    subst ek
    obtain ⟨b1, o1, rfl, _, c0⟩ := S1.cell (i := 0) (by simp)
    simp at c0
    clear S1
    go_wp2
    have Z5 := blk_set (blk_set (blk_set (blk_set Z1 0 (.bool false)) 1 (.bool true)) 2 (.int .u64 p.k)) 3 (.slice none 0 0)
    have y0 := cell_of_blk Z5 (i := 0) rfl
    have y1 := cell_of_blk Z5 (i := 1) rfl
    have y2 := cell_of_blk Z5 (i := 2) rfl
    have y3 := cell_of_blk Z5 (i := 3) rfl
    exact bodyPost_ret (v := .agg #[.bool false, .bool true, .int .u64 p.k, .slice none 0 0]) (by simp [results, Try.results32, go_sem, y0, y1, y2, y3]) rfl ⟨by unfold clH clV; rw [hf]; rfl, (((KT.setCell (Or.inr (Nat.le_succ _)) _).setCell (Or.inr (Nat.le_succ _)) _).setCell (Or.inr (Nat.le_succ _)) _).setCell (Or.inr (Nat.le_succ _)) _⟩
/-- An op. -/
structure OpQ where
  d : Int
  k : Int
  v : Int
  n : Int
  t : Int
def OpQ.val (o : OpQ) : Value := .agg #[.int .i64 o.d, .int .u64 o.k, .int .u64 o.v, .int .i64 o.n, .int .i64 o.t]
def doM (ps : List Pr) (o : OpQ) : List Pr := if o.d = 2 then wi ps ⟨o.k, o.v⟩ else if o.d = 3 then wo ps o.k else ps
def doH (ps : List Pr) (o : OpQ) : Bool := if o.d = 1 ∨ o.d = 2 ∨ o.d = 3 then gtH ps o.k else if o.d = 4 then clH ps o.k else false
def doG (ps : List Pr) (o : OpQ) : Int := if o.d = 1 ∨ o.d = 2 ∨ o.d = 3 then gtV ps o.k else if o.d = 4 then clV ps o.k else 0
def doK (ps : List Pr) (o : OpQ) : List Int := if o.d = 5 then rgK ps o.k o.v o.n else []
/-- What an op leaves, and tells. -/
def DoP (w : World) (ps : List Pr) (op : OpQ) (o : Ending) (w' : World) : Prop := ∃ bo m cb ko kn kc, o = .returned (.tuple #[.agg #[.slice bo m cb], .agg #[.bool false, .bool (doH ps op), .int .u64 (doG ps op), .slice ko kn kc]]) ∧ MpV w' bo m cb (doM ps op) ∧ kn = (doK ps op).length ∧ Sl w' ko (doK ps op) ∧ Kept [] w w'
/-- The blocks of a call of Do. -/
structure Db (w W : World) (H : Nat) (ao : Option Addr) (n cap : Nat) (o : OpQ) : Prop where
  z0 : W.heap[H]? = some (.cells #[.slice ao n cap] 26 (0, 0))
  z1 : W.heap[H + 1]? = some (.cells #[.int .i64 o.d, .int .u64 o.k, .int .u64 o.v, .int .i64 o.n, .int .i64 o.t] 38 (0, 0))
  z2 : W.heap[H + 1 + 1]? = some (.cells #[.slice none 0 0] 26 (0, 0))
  z3 : W.heap[H + 1 + 1 + 1]? = some (.cells #[.bool false, .bool false, .int .u64 0, .slice none 0 0] 41 (0, 0))
  kept : Kept [] w W
  le : w.heap.size ≤ H
theorem Db.kept' {w W W' : World} {H : Nat} {ao : Option Addr} {n cap : Nat} {o : OpQ} (h : Db w W H ao n cap o) (k : Kept [] W W') : Db w W' H ao n cap o :=
  ⟨k.blk h.z0 (by simp), k.blk h.z1 (by simp), k.blk h.z2 (by simp), k.blk h.z3 (by simp), h.kept.trans k, h.le⟩
def dbS (W' : World) (H : Nat) (ao : Option Addr) (n cap : Nat) (o : OpQ) : Prop := W'.cell? ⟨H, 0, none⟩ = some (.slice ao n cap) ∧ W'.cell? ⟨H + 1, 1, none⟩ = some (.int .u64 o.k) ∧ W'.cell? ⟨H + 1, 2, none⟩ = some (.int .u64 o.v) ∧ W'.cell? ⟨H + 1, 3, none⟩ = some (.int .i64 o.n)
theorem Db.s {w W : World} {H : Nat} {ao : Option Addr} {n cap : Nat} {o : OpQ} (h : Db w W H ao n cap o) : dbS W H ao n cap o :=
  ⟨cell_of_blk h.z0 (i := 0) rfl, cell_of_blk h.z1 (i := 1) rfl, cell_of_blk h.z1 (i := 2) rfl, cell_of_blk h.z1 (i := 3) rfl⟩
theorem Db.new (w : World) (ao : Option Addr) (n cap : Nat) (o : OpQ) : Db w ((((w.alloc (.cells #[.slice ao n cap] 26)).alloc (.cells #[.int .i64 o.d, .int .u64 o.k, .int .u64 o.v, .int .i64 o.n, .int .i64 o.t] 38)).alloc (.cells #[.slice none 0 0] 26)).alloc (.cells #[.bool false, .bool false, .int .u64 0, .slice none 0 0] 41)) w.heap.size ao n cap o := by
  refine ⟨?_, ?_, ?_, ?_, ((((Kept.refl _ _).alloc _).alloc _).alloc _).alloc _, Nat.le_refl _⟩
  · exact box_alloc (box_alloc (box_alloc (blk_alloc_new _ _) _) _) _
  · have := box_alloc (box_alloc (blk_alloc_new (w.alloc (.cells #[.slice ao n cap] 26)) (.cells #[.int .i64 o.d, .int .u64 o.k, .int .u64 o.v, .int .i64 o.n, .int .i64 o.t] 38)) (.cells #[.slice none 0 0] 26)) (.cells #[.bool false, .bool false, .int .u64 0, .slice none 0 0] 41)
    simp only [nblk_alloc] at this; exact this
  · have := box_alloc (blk_alloc_new ((w.alloc (.cells #[.slice ao n cap] 26)).alloc (.cells #[.int .i64 o.d, .int .u64 o.k, .int .u64 o.v, .int .i64 o.n, .int .i64 o.t] 38)) (.cells #[.slice none 0 0] 26)) (.cells #[.bool false, .bool false, .int .u64 0, .slice none 0 0] 41)
    simp only [nblk_alloc] at this; exact this
  · have := blk_alloc_new (((w.alloc (.cells #[.slice ao n cap] 26)).alloc (.cells #[.int .i64 o.d, .int .u64 o.k, .int .u64 o.v, .int .i64 o.n, .int .i64 o.t] 38)).alloc (.cells #[.slice none 0 0] 26)) (.cells #[.bool false, .bool false, .int .u64 0, .slice none 0 0] 41)
    simp only [nblk_alloc] at this; exact this
/-- A store into an answer's own block leaves pairs as they are. -/
theorem SlP.setAns {w : World} {ao : Option Addr} {es : List Pr} (h : SlP w ao es) {B : Nat} {a b : Bool} {x : Int} {so : Option Addr} {n c : Nat} {T : TypeId} (Z : w.heap[B]? = some (.cells #[.bool a, .bool b, .int .u64 x, .slice so n c] T (0, 0))) (i : Nat) (u : Value) : SlP (w.setCell ⟨B, i, none⟩ u) ao es := by
  intro h0
  obtain ⟨b', off, rfl, hb, hc⟩ := h h0
  have hne : b' ≠ B := by
    rintro rfl
    have k0 := hc 0 h0 0 _ rfl
    have k1 := hc 0 h0 1 _ rfl
    simp [World.cell?, Z] at k0 k1
    match off, k0, k1 with
    | 0, k0, _ => simp at k0
    | 1, k0, _ => simp at k0
    | 2, _, k1 => simp at k1
    | 3, k0, _ => simp at k0
    | o + 4, k0, _ => simp at k0
  refine ⟨b', off, rfl, by rw [nblk_setCell]; exact hb, fun i hi j v hv => ?_⟩
  rw [World.cell?_of_block (w := w) (a := ⟨b', off + i * 2 + j, none⟩) (blk_setCell_other _ _ _ _ (fun e => hne e))]
  exact hc i hi j v hv
/-- What is stored at the end of a call of Do. -/
def dEnd (W : World) (H : Nat) (bo : Option Addr) (m cb : Nat) (h : Bool) (g : Int) (ko : Option Addr) (kn kc : Nat) : World :=
  ((((W.setCell ⟨H + 1 + 1, 0, none⟩ (.slice bo m cb)).setCell ⟨H + 1 + 1 + 1, 0, none⟩ (.bool false)).setCell ⟨H + 1 + 1 + 1, 1, none⟩ (.bool h)).setCell ⟨H + 1 + 1 + 1, 2, none⟩ (.int .u64 g)).setCell ⟨H + 1 + 1 + 1, 3, none⟩ (.slice ko kn kc)
theorem Db.fin {w W : World} {H : Nat} {ao : Option Addr} {n cap : Nat} {op : OpQ} (D : Db w W H ao n cap op) {ps : List Pr} {bo : Option Addr} {m cb : Nat} {h : Bool} {g : Int} {ko : Option Addr} {kn kc : Nat} (M : MpV W bo m cb ps) {ks : List Int} (S : Sl W ko ks) (hk : ∀ ad, ko = some ad → H + 1 + 1 + 1 + 1 ≤ ad.block) :
    MpV (dEnd W H bo m cb h g ko kn kc) bo m cb ps ∧ Sl (dEnd W H bo m cb h g ko kn kc) ko ks ∧ Kept [] w (dEnd W H bo m cb h g ko kn kc) ∧
    (dEnd W H bo m cb h g ko kn kc).heap[H + 1 + 1]? = some (.cells #[.slice bo m cb] 26 (0, 0)) ∧ (dEnd W H bo m cb h g ko kn kc).heap[H + 1 + 1 + 1]? = some (.cells #[.bool false, .bool h, .int .u64 g, .slice ko kn kc] 41 (0, 0)) := by
  have y0 := blk_set D.z2 0 (.slice bo m cb)
  have ne : ∀ (X : World) (i : Nat) (u : Value), (X.setCell ⟨H + 1 + 1 + 1, i, none⟩ u).heap[H + 1 + 1]? = X.heap[H + 1 + 1]? := fun X i u => blk_setCell_other _ _ _ _ (by simp)
  have e0 : (W.setCell ⟨H + 1 + 1, 0, none⟩ (.slice bo m cb)).heap[H + 1 + 1 + 1]? = some (.cells #[.bool false, .bool false, .int .u64 0, .slice none 0 0] 41 (0, 0)) := by
    rw [blk_setCell_other _ _ _ _ (by simp)]; exact D.z3
  have e1 := blk_set e0 0 (.bool false)
  have e2 := blk_set e1 1 (.bool h)
  have e3 := blk_set e2 2 (.int .u64 g)
  have e4 := blk_set e3 3 (.slice ko kn kc)
  have KK : Kept [H + 1 + 1, H + 1 + 1 + 1] W (dEnd W H bo m cb h g ko kn kc) := by
    unfold dEnd
    exact (((((Kept.refl _ W).setCell (p := ⟨H + 1 + 1, 0, none⟩) (Or.inl (by simp)) _).setCell (p := ⟨H + 1 + 1 + 1, 0, none⟩) (Or.inl (by simp)) _).setCell (p := ⟨H + 1 + 1 + 1, 1, none⟩) (Or.inl (by simp)) _).setCell (p := ⟨H + 1 + 1 + 1, 2, none⟩) (Or.inl (by simp)) _).setCell (p := ⟨H + 1 + 1 + 1, 3, none⟩) (Or.inl (by simp)) _
  refine ⟨⟨M.1, ?_, M.2.2⟩, S.kept KK (fun ad e => by have := hk ad e; simp; omega), D.kept.then KK (by intro x hx; right; have := D.le; simp at hx; omega), ?_, e4⟩
  · exact SlP.setAns (SlP.setAns (SlP.setAns (SlP.setAns (SlP.setMap M.2.1 D.z2 _) e0 0 _) e1 1 _) e2 2 _) e3 3 _
  · unfold dEnd; rw [ne, ne, ne, ne]; exact y0
end Go.Proofs.Ytapbkonfjieadaa.Q
