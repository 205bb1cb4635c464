/-
  The contract of an op of a map.
  The contract of an op of a map: Get.
  The contract of an op of a map: Put.
  The contract of an op of a map: Delete.
  The contract of an op of a map: Ceiling.
  The contract of an op of a map: Range.
  The contract of an op of a map: of another kind.
  The contract of any op of a map.
-/
import Derived.Test.YtlmkcakmeldfeaaQKeyed
namespace Go.Proofs.Ytlmkcakmeldfeaa.Q
set_option maxRecDepth 100000
open Go.RowKit
open Go.Deep
/-- The least key that is not below k. -/
def clH (ps : List Pr) (k : Int) : Bool := (nbl ps k).head?.isSome
def clV (ps : List Pr) (k : Int) : Int := match (nbl ps k).head? with | some p => p.k | none => 0
/-- All keys are words. -/
def Wd (ps : List Pr) : Prop := ∀ x ∈ ps, x.k ≤ 18446744073709551615
theorem rgK_one {ps : List Pr} (h : Wd ps) (k : Int) : rgK ps k 18446744073709551615 1 = ((nbl ps k).head?.map Pr.k).toList := by
  unfold rgK
  rw [List.filter_eq_self.2 (fun x hx => by simpa using h x (mem_nbl.1 hx).1)]
  rw [show (1 : Int).toNat = 1 from rfl, List.take_one, List.head?_map]
set_option maxHeartbeats 1000000 in
theorem ceiling_any (ao : Option Addr) (ps : List Pr) (n cap : Nat) (k : Int) (w : World) (h : MpV w ao n cap ps) (hst : Str ps) (hw : Wd ps) (hl : n ≤ 1000) :
    Calls Try.prog 44 #[.agg #[.slice ao n cap], .int .u64 k] w fun o w' => o = .returned (.agg #[.bool false, .bool (clH ps k), .int .u64 (clV ps k), .slice none 0 0]) ∧ Kept [] w w' := by
  have K0 : Kept [] w ((w.alloc (.cells #[.slice ao n cap] 35)).alloc (.cells #[.bool false, .bool false, .int .u64 0, .slice none 0 0] 46)) := ((Kept.refl _ _).alloc _).alloc _
  have Z0 := blk_alloc_new (w.alloc (.cells #[.slice ao n cap] 35)) (.cells #[.bool false, .bool false, .int .u64 0, .slice none 0 0] 46)
  rw [nblk_alloc] at Z0
  have hc := keys_any ao ps n cap k 18446744073709551615 1 _ (h.new K0) hst hl
  clear h
  go_enter Try.func44, Try.ntmps44
  go_wp2_with fail
  refine hc.mono ?_
  rintro o w1 ⟨ko, kn, kc, rfl, ek, S1, _, K1⟩
  have Z1 := K1.blk Z0 (by simp)
  have KT := K0.trans K1
  have q0 := cell_of_blk Z1 (i := 0) rfl
  have q1 := cell_of_blk Z1 (i := 1) rfl
  have q2 := cell_of_blk Z1 (i := 2) rfl
  have q3 := cell_of_blk Z1 (i := 3) rfl
  have fr := free_of_blk Z1
  rw [rgK_one hw] at ek S1
  clear hc K0 K1 Z0
  cases hf : (nbl ps k).head? with
  | none =>
    rw [hf] at ek S1
    simp at ek
    subst ek
    clear S1
    go_wp2
    have Z5 := blk_set (blk_set (blk_set (blk_set Z1 0 (.bool false)) 1 (.bool false)) 2 (.int .u64 0)) 3 (.slice none 0 0)
    have y0 := cell_of_blk Z5 (i := 0) rfl
    have y1 := cell_of_blk Z5 (i := 1) rfl
    have y2 := cell_of_blk Z5 (i := 2) rfl
    have y3 := cell_of_blk Z5 (i := 3) rfl
    exact bodyPost_ret (v := .agg #[.bool false, .bool false, .int .u64 0, .slice none 0 0]) (by simp [results, Try.results44, go_sem, y0, y1, y2, y3]) rfl ⟨by unfold clH clV; rw [hf]; rfl, (((KT.setCell (Or.inr (Nat.le_succ _)) _).setCell (Or.inr (Nat.le_succ _)) _).setCell (Or.inr (Nat.le_succ _)) _).setCell (Or.inr (Nat.le_succ _)) _⟩
  | some p =>
    rw [hf] at ek S1
    simp at ek
    subst ek
    obtain ⟨b1, o1, rfl, _, c0⟩ := S1.cell (i := 0) (by simp)
    simp at c0
    clear S1
    go_wp2
    have Z5 := blk_set (blk_set (blk_set (blk_set Z1 0 (.bool false)) 1 (.bool true)) 2 (.int .u64 p.k)) 3 (.slice none 0 0)
    have y0 := cell_of_blk Z5 (i := 0) rfl
    have y1 := cell_of_blk Z5 (i := 1) rfl
    have y2 := cell_of_blk Z5 (i := 2) rfl
    have y3 := cell_of_blk Z5 (i := 3) rfl
    exact bodyPost_ret (v := .agg #[.bool false, .bool true, .int .u64 p.k, .slice none 0 0]) (by simp [results, Try.results44, go_sem, y0, y1, y2, y3]) rfl ⟨by unfold clH clV; rw [hf]; rfl, (((KT.setCell (Or.inr (Nat.le_succ _)) _).setCell (Or.inr (Nat.le_succ _)) _).setCell (Or.inr (Nat.le_succ _)) _).setCell (Or.inr (Nat.le_succ _)) _⟩
/-- An op. -/
structure OpQ where
  d : Int
  k : Int
  v : Int
  n : Int
  t : Int
def OpQ.val (o : OpQ) : Value := .agg #[.int .i64 o.d, .int .u64 o.k, .int .u64 o.v, .int .i64 o.n, .int .i64 o.t]
def doM (ps : List Pr) (o : OpQ) : List Pr := if o.d = 2 then wi ps ⟨o.k, o.v⟩ else if o.d = 3 then wo ps o.k else ps
def doH (ps : List Pr) (o : OpQ) : Bool := if o.d = 1 ∨ o.d = 2 ∨ o.d = 3 then gtH ps o.k else if o.d = 4 then clH ps o.k else false
def doG (ps : List Pr) (o : OpQ) : Int := if o.d = 1 ∨ o.d = 2 ∨ o.d = 3 then gtV ps o.k else if o.d = 4 then clV ps o.k else 0
def doK (ps : List Pr) (o : OpQ) : List Int := if o.d = 5 then rgK ps o.k o.v o.n else []
/-- What an op leaves, and tells. -/
def DoP (w : World) (ps : List Pr) (op : OpQ) (o : Ending) (w' : World) : Prop := ∃ bo m cb ko kn kc, o = .returned (.tuple #[.agg #[.slice bo m cb], .agg #[.bool false, .bool (doH ps op), .int .u64 (doG ps op), .slice ko kn kc]]) ∧ MpV w' bo m cb (doM ps op) ∧ kn = (doK ps op).length ∧ Sl w' ko (doK ps op) ∧ Kept [] w w'
/-- The blocks of a call of Do. -/
structure Db (w W : World) (H : Nat) (ao : Option Addr) (n cap : Nat) (o : OpQ) : Prop where
  z0 : W.heap[H]? = some (.cells #[.slice ao n cap] 35 (0, 0))
  z1 : W.heap[H + 1]? = some (.cells #[.int .i64 o.d, .int .u64 o.k, .int .u64 o.v, .int .i64 o.n, .int .i64 o.t] 43 (0, 0))
  z2 : W.heap[H + 1 + 1]? = some (.cells #[.slice none 0 0] 35 (0, 0))
  z3 : W.heap[H + 1 + 1 + 1]? = some (.cells #[.bool false, .bool false, .int .u64 0, .slice none 0 0] 46 (0, 0))
  kept : Kept [] w W
  le : w.heap.size ≤ H
theorem Db.kept' {w W W' : World} {H : Nat} {ao : Option Addr} {n cap : Nat} {o : OpQ} (h : Db w W H ao n cap o) (k : Kept [] W W') : Db w W' H ao n cap o :=
  ⟨k.blk h.z0 (by simp), k.blk h.z1 (by simp), k.blk h.z2 (by simp), k.blk h.z3 (by simp), h.kept.trans k, h.le⟩
def dbS (W' : World) (H : Nat) (ao : Option Addr) (n cap : Nat) (o : OpQ) : Prop := W'.cell? ⟨H, 0, none⟩ = some (.slice ao n cap) ∧ W'.cell? ⟨H + 1, 1, none⟩ = some (.int .u64 o.k) ∧ W'.cell? ⟨H + 1, 2, none⟩ = some (.int .u64 o.v) ∧ W'.cell? ⟨H + 1, 3, none⟩ = some (.int .i64 o.n)
theorem Db.s {w W : World} {H : Nat} {ao : Option Addr} {n cap : Nat} {o : OpQ} (h : Db w W H ao n cap o) : dbS W H ao n cap o :=
  ⟨cell_of_blk h.z0 (i := 0) rfl, cell_of_blk h.z1 (i := 1) rfl, cell_of_blk h.z1 (i := 2) rfl, cell_of_blk h.z1 (i := 3) rfl⟩
theorem Db.new (w : World) (ao : Option Addr) (n cap : Nat) (o : OpQ) : Db w ((((w.alloc (.cells #[.slice ao n cap] 35)).alloc (.cells #[.int .i64 o.d, .int .u64 o.k, .int .u64 o.v, .int .i64 o.n, .int .i64 o.t] 43)).alloc (.cells #[.slice none 0 0] 35)).alloc (.cells #[.bool false, .bool false, .int .u64 0, .slice none 0 0] 46)) w.heap.size ao n cap o := by
  refine ⟨?_, ?_, ?_, ?_, ((((Kept.refl _ _).alloc _).alloc _).alloc _).alloc _, Nat.le_refl _⟩
  · exact box_alloc (box_alloc (box_alloc (blk_alloc_new _ _) _) _) _
  · have := box_alloc (box_alloc (blk_alloc_new (w.alloc (.cells #[.slice ao n cap] 35)) (.cells #[.int .i64 o.d, .int .u64 o.k, .int .u64 o.v, .int .i64 o.n, .int .i64 o.t] 43)) (.cells #[.slice none 0 0] 35)) (.cells #[.bool false, .bool false, .int .u64 0, .slice none 0 0] 46)
    simp only [nblk_alloc] at this; exact this
  · have := box_alloc (blk_alloc_new ((w.alloc (.cells #[.slice ao n cap] 35)).alloc (.cells #[.int .i64 o.d, .int .u64 o.k, .int .u64 o.v, .int .i64 o.n, .int .i64 o.t] 43)) (.cells #[.slice none 0 0] 35)) (.cells #[.bool false, .bool false, .int .u64 0, .slice none 0 0] 46)
    simp only [nblk_alloc] at this; exact this
  · have := blk_alloc_new (((w.alloc (.cells #[.slice ao n cap] 35)).alloc (.cells #[.int .i64 o.d, .int .u64 o.k, .int .u64 o.v, .int .i64 o.n, .int .i64 o.t] 43)).alloc (.cells #[.slice none 0 0] 35)) (.cells #[.bool false, .bool false, .int .u64 0, .slice none 0 0] 46)
    simp only [nblk_alloc] at this; exact this
/-- A store into an answer's own block leaves pairs as they are. -/
theorem SlP.setAns {w : World} {ao : Option Addr} {es : List Pr} (h : SlP w ao es) {B : Nat} {a b : Bool} {x : Int} {so : Option Addr} {n c : Nat} {T : TypeId} (Z : w.heap[B]? = some (.cells #[.bool a, .bool b, .int .u64 x, .slice so n c] T (0, 0))) (i : Nat) (u : Value) : SlP (w.setCell ⟨B, i, none⟩ u) ao es := by
  intro h0
  obtain ⟨b', off, rfl, hb, hc⟩ := h h0
  have hne : b' ≠ B := by
    rintro rfl
    have k0 := hc 0 h0 0 _ rfl
    have k1 := hc 0 h0 1 _ rfl
    simp [World.cell?, Z] at k0 k1
    match off, k0, k1 with
    | 0, k0, _ => simp at k0
    | 1, k0, _ => simp at k0
    | 2, _, k1 => simp at k1
    | 3, k0, _ => simp at k0
    | o + 4, k0, _ => simp at k0
  refine ⟨b', off, rfl, by rw [nblk_setCell]; exact hb, fun i hi j v hv => ?_⟩
  rw [World.cell?_of_block (w := w) (a := ⟨b', off + i * 2 + j, none⟩) (blk_setCell_other _ _ _ _ (fun e => hne e))]
  exact hc i hi j v hv
/-- What is stored at the end of a call of Do. -/
def dEnd (W : World) (H : Nat) (bo : Option Addr) (m cb : Nat) (h : Bool) (g : Int) (ko : Option Addr) (kn kc : Nat) : World :=
  ((((W.setCell ⟨H + 1 + 1, 0, none⟩ (.slice bo m cb)).setCell ⟨H + 1 + 1 + 1, 0, none⟩ (.bool false)).setCell ⟨H + 1 + 1 + 1, 1, none⟩ (.bool h)).setCell ⟨H + 1 + 1 + 1, 2, none⟩ (.int .u64 g)).setCell ⟨H + 1 + 1 + 1, 3, none⟩ (.slice ko kn kc)
theorem Db.fin {w W : World} {H : Nat} {ao : Option Addr} {n cap : Nat} {op : OpQ} (D : Db w W H ao n cap op) {ps : List Pr} {bo : Option Addr} {m cb : Nat} {h : Bool} {g : Int} {ko : Option Addr} {kn kc : Nat} (M : MpV W bo m cb ps) {ks : List Int} (S : Sl W ko ks) (hk : ∀ ad, ko = some ad → H + 1 + 1 + 1 + 1 ≤ ad.block) :
    MpV (dEnd W H bo m cb h g ko kn kc) bo m cb ps ∧ Sl (dEnd W H bo m cb h g ko kn kc) ko ks ∧ Kept [] w (dEnd W H bo m cb h g ko kn kc) ∧
    (dEnd W H bo m cb h g ko kn kc).heap[H + 1 + 1]? = some (.cells #[.slice bo m cb] 35 (0, 0)) ∧ (dEnd W H bo m cb h g ko kn kc).heap[H + 1 + 1 + 1]? = some (.cells #[.bool false, .bool h, .int .u64 g, .slice ko kn kc] 46 (0, 0)) := by
  have y0 := blk_set D.z2 0 (.slice bo m cb)
  have ne : ∀ (X : World) (i : Nat) (u : Value), (X.setCell ⟨H + 1 + 1 + 1, i, none⟩ u).heap[H + 1 + 1]? = X.heap[H + 1 + 1]? := fun X i u => blk_setCell_other _ _ _ _ (by simp)
  have e0 : (W.setCell ⟨H + 1 + 1, 0, none⟩ (.slice bo m cb)).heap[H + 1 + 1 + 1]? = some (.cells #[.bool false, .bool false, .int .u64 0, .slice none 0 0] 46 (0, 0)) := by
    rw [blk_setCell_other _ _ _ _ (by simp)]; exact D.z3
  have e1 := blk_set e0 0 (.bool false)
  have e2 := blk_set e1 1 (.bool h)
  have e3 := blk_set e2 2 (.int .u64 g)
  have e4 := blk_set e3 3 (.slice ko kn kc)
  have KK : Kept [H + 1 + 1, H + 1 + 1 + 1] W (dEnd W H bo m cb h g ko kn kc) := by
    unfold dEnd
    exact (((((Kept.refl _ W).setCell (p := ⟨H + 1 + 1, 0, none⟩) (Or.inl (by simp)) _).setCell (p := ⟨H + 1 + 1 + 1, 0, none⟩) (Or.inl (by simp)) _).setCell (p := ⟨H + 1 + 1 + 1, 1, none⟩) (Or.inl (by simp)) _).setCell (p := ⟨H + 1 + 1 + 1, 2, none⟩) (Or.inl (by simp)) _).setCell (p := ⟨H + 1 + 1 + 1, 3, none⟩) (Or.inl (by simp)) _
  refine ⟨⟨M.1, ?_, M.2.2⟩, S.kept KK (fun ad e => by have := hk ad e; simp; omega), D.kept.then KK (by intro x hx; right; have := D.le; simp at hx; omega), ?_, e4⟩
  · exact SlP.setAns (SlP.setAns (SlP.setAns (SlP.setAns (SlP.setMap M.2.1 D.z2 _) e0 0 _) e1 1 _) e2 2 _) e3 3 _
  · unfold dEnd; rw [ne, ne, ne, ne]; exact y0
end Go.Proofs.Ytlmkcakmeldfeaa.Q
namespace Go.Proofs.Ytlmkcakmeldfeaa.Q
set_option maxRecDepth 100000
open Go.RowKit
open Go.Deep
set_option maxHeartbeats 4000000 in
theorem do_get (ao : Option Addr) (ps : List Pr) (n cap : Nat) (op : OpQ) (w : World) (h : MpV w ao n cap ps) (hst : Str ps) (_hw : Wd ps) (hl : n ≤ 1000) (hd : op.d = 1) :
    Calls Try.prog 23 #[.agg #[.slice ao n cap], .agg #[.int .i64 op.d, .int .u64 op.k, .int .u64 op.v, .int .i64 op.n, .int .i64 op.t]] w fun o w' => DoP w ps op o w' := by
  obtain ⟨A, hA⟩ : ∃ A, gtH ps op.k = A := ⟨_, rfl⟩
  obtain ⟨B, hB⟩ : ∃ B, gtV ps op.k = B := ⟨_, rfl⟩
  have e1 : doM ps op = ps := by unfold doM; rw [if_neg (by omega), if_neg (by omega)]
  have e2 : doH ps op = A := by unfold doH; rw [if_pos (Or.inl hd)]; exact hA
  have e3 : doG ps op = B := by unfold doG; rw [if_pos (Or.inl hd)]; exact hB
  have e4 : doK ps op = [] := by unfold doK; rw [if_neg (by omega)]
  have EE : Hid _ := And.intro e1 (And.intro e2 (And.intro e3 e4))
  clear e1 e2 e3 e4
  obtain ⟨d, k, v, nn, t⟩ := op
  simp only at hd
  subst hd
  have D0 := Db.new w ao n cap ⟨1, k, v, nn, t⟩
  go_enter Try.func23, Try.ntmps23
  go_wp2_with fail
  refine gen_world (fun W => Db w W w.heap.size ao n cap ⟨1, k, v, nn, t⟩) D0 ?_
  clear D0
  intro W D
  obtain ⟨H, hH⟩ : ∃ H, H = w.heap.size := ⟨_, rfl⟩
  rw [← hH] at D ⊢
  clear hH
  have HS : Hid (∀ W' : World, Kept [H + 1 + 1, H + 1 + 1 + 1] W W' → W'.cell? ⟨H, 0, none⟩ = some (.slice ao n cap) ∧ W'.cell? ⟨H + 1, 1, none⟩ = some (.int .u64 k) ∧ W'.cell? ⟨H + 1, 2, none⟩ = some (.int .u64 v) ∧ W'.cell? ⟨H + 1, 3, none⟩ = some (.int .i64 nn)) := fun W' k' =>
    ⟨cell_of_blk (k'.blk D.z0 (by simp; omega)) (i := 0) rfl, cell_of_blk (k'.blk D.z1 (by simp)) (i := 1) rfl, cell_of_blk (k'.blk D.z1 (by simp)) (i := 2) rfl, cell_of_blk (k'.blk D.z1 (by simp)) (i := 3) rfl⟩
  have G : Hid (∀ W' : World, Kept [] W W' → Calls Try.prog 41 #[.agg #[.slice ao n cap], .int .u64 k] W' fun o w' => o = .returned (.agg #[.bool false, .bool A, .int .u64 B, .slice none 0 0]) ∧ Kept [] W w' ∧ Kept [] W' w') := fun W' k' => by rw [← hA, ← hB]; exact (get_any ao ps n cap k W' (h.new (D.kept.trans k')) hst hl).mono fun _ _ hh => ⟨hh.1, k'.trans hh.2, hh.2⟩
  have HM : Hid (MpV w ao n cap ps) := h
  clear h hA hB
  go_region_held3 (fun W' => W'.cell? ⟨H, 0, none⟩ = some (.slice ao n cap) ∧ W'.cell? ⟨H + 1, 1, none⟩ = some (.int .u64 k) ∧ W'.cell? ⟨H + 1, 2, none⟩ = some (.int .u64 v) ∧ W'.cell? ⟨H + 1, 3, none⟩ = some (.int .i64 nn))
    (exact HS.out _ (by (repeat (first | (with_reducible refine Kept.setCell ?_ ?_ _) | (with_reducible refine Kept.drew ?_))); (first | exact Kept.weaken (l := []) (by with_reducible assumption) (by simp) | (with_reducible exact Kept.refl _ _)); all_goals (refine Or.inl ?_; simp; done)))
    (first | (go_at_call 41; refine (G.out _ (by first | assumption | exact (Kept.refl _ _).drew)).mono ?_; rintro e w5 ⟨rfl, K5, J5⟩; have s0 := cell_of_blk (K5.blk D.z2 (by simp)) (i := 0) rfl; have f0 := free_of_blk (K5.blk D.z2 (by simp)); have s1 := cell_of_blk (K5.blk D.z3 (by simp)) (i := 0) rfl; have s2 := cell_of_blk (K5.blk D.z3 (by simp)) (i := 1) rfl; have s3 := cell_of_blk (K5.blk D.z3 (by simp)) (i := 2) rfl; have s4 := cell_of_blk (K5.blk D.z3 (by simp)) (i := 3) rfl; have f1 := free_of_blk (K5.blk D.z3 (by simp))))
  all_goals
    go_wp2
    have F := (D.kept' K5).fin (bo := ao) (m := n) (cb := cap) (h := A) (g := B) (ko := none) (kn := 0) (kc := 0) (MpV.new HM.out (D.kept.trans K5)) (ks := []) (fun h => absurd h (by simp)) (by simp)
    unfold dEnd at F
    obtain ⟨F1, F2, F3, F4, F5⟩ := F
    have y := cell_of_blk F4 (i := 0) rfl
    have y0 := cell_of_blk F5 (i := 0) rfl
    have y1 := cell_of_blk F5 (i := 1) rfl
    have y2 := cell_of_blk F5 (i := 2) rfl
    have y3 := cell_of_blk F5 (i := 3) rfl
    refine bodyPost_ret (v := .tuple #[.agg #[.slice ao n cap], .agg #[.bool false, .bool A, .int .u64 B, .slice none 0 0]]) (by simp [results, Try.results23, go_sem, y, y0, y1, y2, y3]) rfl ?_
    exact ⟨ao, n, cap, none, 0, 0, by rw [EE.out.2.1, EE.out.2.2.1], by rw [EE.out.1]; exact F1, by rw [EE.out.2.2.2]; exact rfl, by rw [EE.out.2.2.2]; exact F2, F3⟩
end Go.Proofs.Ytlmkcakmeldfeaa.Q
namespace Go.Proofs.Ytlmkcakmeldfeaa.Q
set_option maxRecDepth 100000
open Go.RowKit
open Go.Deep
set_option maxHeartbeats 4000000 in
theorem do_put (ao : Option Addr) (ps : List Pr) (n cap : Nat) (op : OpQ) (w : World) (h : MpV w ao n cap ps) (hst : Str ps) (_hw : Wd ps) (hl : n ≤ 1000) (hd : op.d = 2) :
    Calls Try.prog 23 #[.agg #[.slice ao n cap], .agg #[.int .i64 op.d, .int .u64 op.k, .int .u64 op.v, .int .i64 op.n, .int .i64 op.t]] w fun o w' => DoP w ps op o w' := by
  obtain ⟨A, hA⟩ : ∃ A, gtH ps op.k = A := ⟨_, rfl⟩
  obtain ⟨B, hB⟩ : ∃ B, gtV ps op.k = B := ⟨_, rfl⟩
  obtain ⟨C, hC⟩ : ∃ C, wi ps ⟨op.k, op.v⟩ = C := ⟨_, rfl⟩
  have e1 : doM ps op = C := by unfold doM; rw [if_pos hd]; exact hC
  have e2 : doH ps op = A := by unfold doH; rw [if_pos (by omega)]; exact hA
  have e3 : doG ps op = B := by unfold doG; rw [if_pos (by omega)]; exact hB
  have e4 : doK ps op = [] := by unfold doK; rw [if_neg (by omega)]
  have EE : Hid _ := And.intro e1 (And.intro e2 (And.intro e3 e4))
  clear e1 e2 e3 e4
  obtain ⟨d, k, v, nn, t⟩ := op
  simp only at hd
  subst hd
  have D0 := Db.new w ao n cap ⟨2, k, v, nn, t⟩
  go_enter Try.func23, Try.ntmps23
  go_wp2_with fail
  refine gen_world (fun W => Db w W w.heap.size ao n cap ⟨2, k, v, nn, t⟩) D0 ?_
  clear D0
  intro W D
  obtain ⟨H, hH⟩ : ∃ H, H = w.heap.size := ⟨_, rfl⟩
  rw [← hH] at D ⊢
  clear hH
  have HS : Hid (∀ W' : World, Kept [H + 1 + 1, H + 1 + 1 + 1] W W' → W'.cell? ⟨H, 0, none⟩ = some (.slice ao n cap) ∧ W'.cell? ⟨H + 1, 1, none⟩ = some (.int .u64 k) ∧ W'.cell? ⟨H + 1, 2, none⟩ = some (.int .u64 v) ∧ W'.cell? ⟨H + 1, 3, none⟩ = some (.int .i64 nn)) := fun W' k' =>
    ⟨cell_of_blk (k'.blk D.z0 (by simp; omega)) (i := 0) rfl, cell_of_blk (k'.blk D.z1 (by simp)) (i := 1) rfl, cell_of_blk (k'.blk D.z1 (by simp)) (i := 2) rfl, cell_of_blk (k'.blk D.z1 (by simp)) (i := 3) rfl⟩
  have G : Hid (∀ W' : World, Kept [] W W' → Calls Try.prog 41 #[.agg #[.slice ao n cap], .int .u64 k] W' fun o w' => o = .returned (.agg #[.bool false, .bool A, .int .u64 B, .slice none 0 0]) ∧ Kept [] W w' ∧ Kept [] W' w') := fun W' k' => by rw [← hA, ← hB]; exact (get_any ao ps n cap k W' (h.new (D.kept.trans k')) hst hl).mono fun _ _ hh => ⟨hh.1, k'.trans hh.2, hh.2⟩
  have M : Hid (∀ W' : World, Kept [] W W' → Calls Try.prog 42 #[.agg #[.slice ao n cap], .agg #[.int .u64 k, .int .u64 v]] W' fun o w' => ∃ bo m cb, o = .returned (.agg #[.slice bo m cb]) ∧ Hid (MpV w' bo m cb C) ∧ Kept [] W w') := fun W' k' => by rw [← hC]; exact (with_any ao ps n cap ⟨k, v⟩ W' (h.new (D.kept.trans k')) hst hl).mono fun _ _ hh => by obtain ⟨a, b, c, q1, q2, q3⟩ := hh; exact ⟨a, b, c, q1, q2, k'.trans q3⟩
  have HM : Hid (MpV w ao n cap ps) := h
  clear h hA hB hC
  go_region_held3 (fun W' => W'.cell? ⟨H, 0, none⟩ = some (.slice ao n cap) ∧ W'.cell? ⟨H + 1, 1, none⟩ = some (.int .u64 k) ∧ W'.cell? ⟨H + 1, 2, none⟩ = some (.int .u64 v) ∧ W'.cell? ⟨H + 1, 3, none⟩ = some (.int .i64 nn))
    (exact HS.out _ (by (repeat (first | (with_reducible refine Kept.setCell ?_ ?_ _) | (with_reducible refine Kept.drew ?_))); (first | exact Kept.weaken (l := []) (by with_reducible assumption) (by simp) | (with_reducible exact Kept.refl _ _)); all_goals (refine Or.inl ?_; simp; done)))
    (first
      | (go_at_call 41; refine (G.out _ (by first | assumption | exact (Kept.refl _ _).drew)).mono ?_; rintro e w5 ⟨rfl, K5, J5⟩; have s0 := cell_of_blk (K5.blk D.z2 (by simp)) (i := 0) rfl; have f0 := free_of_blk (K5.blk D.z2 (by simp)); have s1 := cell_of_blk (K5.blk D.z3 (by simp)) (i := 0) rfl; have s2 := cell_of_blk (K5.blk D.z3 (by simp)) (i := 1) rfl; have s3 := cell_of_blk (K5.blk D.z3 (by simp)) (i := 2) rfl; have s4 := cell_of_blk (K5.blk D.z3 (by simp)) (i := 3) rfl; have f1 := free_of_blk (K5.blk D.z3 (by simp)))
      | (go_at_call 42; refine (M.out _ (by first | assumption | exact (Kept.refl _ _).drew)).mono ?_; rintro e w6 ⟨bo, m, cb, rfl, Q6, K6⟩; have r0 := cell_of_blk (K6.blk D.z2 (by simp)) (i := 0) rfl; have h0 := free_of_blk (K6.blk D.z2 (by simp)); have r1 := cell_of_blk (K6.blk D.z3 (by simp)) (i := 0) rfl; have r2 := cell_of_blk (K6.blk D.z3 (by simp)) (i := 1) rfl; have r3 := cell_of_blk (K6.blk D.z3 (by simp)) (i := 2) rfl; have r4 := cell_of_blk (K6.blk D.z3 (by simp)) (i := 3) rfl; have h1 := free_of_blk (K6.blk D.z3 (by simp))))
  all_goals
    go_wp2
    first
      | (have F := (D.kept' K5).fin (bo := bo) (m := m) (cb := cb) (h := A) (g := B) (ko := none) (kn := 0) (kc := 0) (MpV.new Q6.out J5) (ks := []) (fun h => absurd h (by simp)) (by simp)
         unfold dEnd at F
         obtain ⟨F1, F2, F3, F4, F5⟩ := F
         have y := cell_of_blk F4 (i := 0) rfl
         have y0 := cell_of_blk F5 (i := 0) rfl
         have y1 := cell_of_blk F5 (i := 1) rfl
         have y2 := cell_of_blk F5 (i := 2) rfl
         have y3 := cell_of_blk F5 (i := 3) rfl
         refine bodyPost_ret (v := .tuple #[.agg #[.slice bo m cb], .agg #[.bool false, .bool A, .int .u64 B, .slice none 0 0]]) (by simp [results, Try.results23, go_sem, y, y0, y1, y2, y3]; done) rfl ?_
         exact ⟨bo, m, cb, none, 0, 0, by rw [EE.out.2.1, EE.out.2.2.1], by rw [EE.out.1]; exact F1, by rw [EE.out.2.2.2]; rfl, by rw [EE.out.2.2.2]; exact F2, F3⟩)
      | (have F := (D.kept' K6).fin (bo := bo) (m := m) (cb := cb) (h := A) (g := B) (ko := none) (kn := 0) (kc := 0) Q6.out (ks := []) (fun h => absurd h (by simp)) (by simp)
         unfold dEnd at F
         obtain ⟨F1, F2, F3, F4, F5⟩ := F
         have y := cell_of_blk F4 (i := 0) rfl
         have y0 := cell_of_blk F5 (i := 0) rfl
         have y1 := cell_of_blk F5 (i := 1) rfl
         have y2 := cell_of_blk F5 (i := 2) rfl
         have y3 := cell_of_blk F5 (i := 3) rfl
         refine bodyPost_ret (v := .tuple #[.agg #[.slice bo m cb], .agg #[.bool false, .bool A, .int .u64 B, .slice none 0 0]]) (by simp [results, Try.results23, go_sem, y, y0, y1, y2, y3]; done) rfl ?_
         exact ⟨bo, m, cb, none, 0, 0, by rw [EE.out.2.1, EE.out.2.2.1], by rw [EE.out.1]; exact F1, by rw [EE.out.2.2.2]; rfl, by rw [EE.out.2.2.2]; exact F2, F3⟩)
end Go.Proofs.Ytlmkcakmeldfeaa.Q
namespace Go.Proofs.Ytlmkcakmeldfeaa.Q
set_option maxRecDepth 100000
open Go.RowKit
open Go.Deep
set_option maxHeartbeats 4000000 in
theorem do_del (ao : Option Addr) (ps : List Pr) (n cap : Nat) (op : OpQ) (w : World) (h : MpV w ao n cap ps) (hst : Str ps) (_hw : Wd ps) (hl : n ≤ 1000) (hd : op.d = 3) :
    Calls Try.prog 23 #[.agg #[.slice ao n cap], .agg #[.int .i64 op.d, .int .u64 op.k, .int .u64 op.v, .int .i64 op.n, .int .i64 op.t]] w fun o w' => DoP w ps op o w' := by
  obtain ⟨A, hA⟩ : ∃ A, gtH ps op.k = A := ⟨_, rfl⟩
  obtain ⟨B, hB⟩ : ∃ B, gtV ps op.k = B := ⟨_, rfl⟩
  obtain ⟨C, hC⟩ : ∃ C, wo ps op.k = C := ⟨_, rfl⟩
  have e1 : doM ps op = C := by unfold doM; rw [if_neg (by omega), if_pos hd]; exact hC
  have e2 : doH ps op = A := by unfold doH; rw [if_pos (by omega)]; exact hA
  have e3 : doG ps op = B := by unfold doG; rw [if_pos (by omega)]; exact hB
  have e4 : doK ps op = [] := by unfold doK; rw [if_neg (by omega)]
  have EE : Hid _ := And.intro e1 (And.intro e2 (And.intro e3 e4))
  clear e1 e2 e3 e4
  obtain ⟨d, k, v, nn, t⟩ := op
  simp only at hd
  subst hd
  have D0 := Db.new w ao n cap ⟨3, k, v, nn, t⟩
  go_enter Try.func23, Try.ntmps23
  go_wp2_with fail
  refine gen_world (fun W => Db w W w.heap.size ao n cap ⟨3, k, v, nn, t⟩) D0 ?_
  clear D0
  intro W D
  obtain ⟨H, hH⟩ : ∃ H, H = w.heap.size := ⟨_, rfl⟩
  rw [← hH] at D ⊢
  clear hH
  have HS : Hid (∀ W' : World, Kept [H + 1 + 1, H + 1 + 1 + 1] W W' → W'.cell? ⟨H, 0, none⟩ = some (.slice ao n cap) ∧ W'.cell? ⟨H + 1, 1, none⟩ = some (.int .u64 k) ∧ W'.cell? ⟨H + 1, 2, none⟩ = some (.int .u64 v) ∧ W'.cell? ⟨H + 1, 3, none⟩ = some (.int .i64 nn)) := fun W' k' =>
    ⟨cell_of_blk (k'.blk D.z0 (by simp; omega)) (i := 0) rfl, cell_of_blk (k'.blk D.z1 (by simp)) (i := 1) rfl, cell_of_blk (k'.blk D.z1 (by simp)) (i := 2) rfl, cell_of_blk (k'.blk D.z1 (by simp)) (i := 3) rfl⟩
  have G : Hid (∀ W' : World, Kept [] W W' → Calls Try.prog 41 #[.agg #[.slice ao n cap], .int .u64 k] W' fun o w' => o = .returned (.agg #[.bool false, .bool A, .int .u64 B, .slice none 0 0]) ∧ Kept [] W w' ∧ Kept [] W' w') := fun W' k' => by rw [← hA, ← hB]; exact (get_any ao ps n cap k W' (h.new (D.kept.trans k')) hst hl).mono fun _ _ hh => ⟨hh.1, k'.trans hh.2, hh.2⟩
  have M : Hid (∀ W' : World, Kept [] W W' → Calls Try.prog 43 #[.agg #[.slice ao n cap], .int .u64 k] W' fun o w' => ∃ bo m cb, o = .returned (.agg #[.slice bo m cb]) ∧ Hid (MpV w' bo m cb C) ∧ Kept [] W w') := fun W' k' => by rw [← hC]; exact (without_any ao ps n cap k W' (h.new (D.kept.trans k')) hst hl).mono fun _ _ hh => by obtain ⟨a, b, c, q1, q2, q3⟩ := hh; exact ⟨a, b, c, q1, q2, k'.trans q3⟩
  have HM : Hid (MpV w ao n cap ps) := h
  clear h hA hB hC
  go_region_held3 (fun W' => W'.cell? ⟨H, 0, none⟩ = some (.slice ao n cap) ∧ W'.cell? ⟨H + 1, 1, none⟩ = some (.int .u64 k) ∧ W'.cell? ⟨H + 1, 2, none⟩ = some (.int .u64 v) ∧ W'.cell? ⟨H + 1, 3, none⟩ = some (.int .i64 nn))
    (exact HS.out _ (by (repeat (first | (with_reducible refine Kept.setCell ?_ ?_ _) | (with_reducible refine Kept.drew ?_))); (first | exact Kept.weaken (l := []) (by with_reducible assumption) (by simp) | (with_reducible exact Kept.refl _ _)); all_goals (refine Or.inl ?_; simp; done)))
    (first
      | (go_at_call 41; refine (G.out _ (by first | assumption | exact (Kept.refl _ _).drew)).mono ?_; rintro e w5 ⟨rfl, K5, J5⟩; have s0 := cell_of_blk (K5.blk D.z2 (by simp)) (i := 0) rfl; have f0 := free_of_blk (K5.blk D.z2 (by simp)); have s1 := cell_of_blk (K5.blk D.z3 (by simp)) (i := 0) rfl; have s2 := cell_of_blk (K5.blk D.z3 (by simp)) (i := 1) rfl; have s3 := cell_of_blk (K5.blk D.z3 (by simp)) (i := 2) rfl; have s4 := cell_of_blk (K5.blk D.z3 (by simp)) (i := 3) rfl; have f1 := free_of_blk (K5.blk D.z3 (by simp)))
      | (go_at_call 43; refine (M.out _ (by first | assumption | exact (Kept.refl _ _).drew)).mono ?_; rintro e w6 ⟨bo, m, cb, rfl, Q6, K6⟩; have r0 := cell_of_blk (K6.blk D.z2 (by simp)) (i := 0) rfl; have h0 := free_of_blk (K6.blk D.z2 (by simp)); have r1 := cell_of_blk (K6.blk D.z3 (by simp)) (i := 0) rfl; have r2 := cell_of_blk (K6.blk D.z3 (by simp)) (i := 1) rfl; have r3 := cell_of_blk (K6.blk D.z3 (by simp)) (i := 2) rfl; have r4 := cell_of_blk (K6.blk D.z3 (by simp)) (i := 3) rfl; have h1 := free_of_blk (K6.blk D.z3 (by simp))))
  all_goals
    go_wp2
    first
      | (have F := (D.kept' K5).fin (bo := bo) (m := m) (cb := cb) (h := A) (g := B) (ko := none) (kn := 0) (kc := 0) (MpV.new Q6.out J5) (ks := []) (fun h => absurd h (by simp)) (by simp)
         unfold dEnd at F
         obtain ⟨F1, F2, F3, F4, F5⟩ := F
         have y := cell_of_blk F4 (i := 0) rfl
         have y0 := cell_of_blk F5 (i := 0) rfl
         have y1 := cell_of_blk F5 (i := 1) rfl
         have y2 := cell_of_blk F5 (i := 2) rfl
         have y3 := cell_of_blk F5 (i := 3) rfl
         refine bodyPost_ret (v := .tuple #[.agg #[.slice bo m cb], .agg #[.bool false, .bool A, .int .u64 B, .slice none 0 0]]) (by simp [results, Try.results23, go_sem, y, y0, y1, y2, y3]; done) rfl ?_
         exact ⟨bo, m, cb, none, 0, 0, by rw [EE.out.2.1, EE.out.2.2.1], by rw [EE.out.1]; exact F1, by rw [EE.out.2.2.2]; rfl, by rw [EE.out.2.2.2]; exact F2, F3⟩)
      | (have F := (D.kept' K6).fin (bo := bo) (m := m) (cb := cb) (h := A) (g := B) (ko := none) (kn := 0) (kc := 0) Q6.out (ks := []) (fun h => absurd h (by simp)) (by simp)
         unfold dEnd at F
         obtain ⟨F1, F2, F3, F4, F5⟩ := F
         have y := cell_of_blk F4 (i := 0) rfl
         have y0 := cell_of_blk F5 (i := 0) rfl
         have y1 := cell_of_blk F5 (i := 1) rfl
         have y2 := cell_of_blk F5 (i := 2) rfl
         have y3 := cell_of_blk F5 (i := 3) rfl
         refine bodyPost_ret (v := .tuple #[.agg #[.slice bo m cb], .agg #[.bool false, .bool A, .int .u64 B, .slice none 0 0]]) (by simp [results, Try.results23, go_sem, y, y0, y1, y2, y3]; done) rfl ?_
         exact ⟨bo, m, cb, none, 0, 0, by rw [EE.out.2.1, EE.out.2.2.1], by rw [EE.out.1]; exact F1, by rw [EE.out.2.2.2]; rfl, by rw [EE.out.2.2.2]; exact F2, F3⟩)
end Go.Proofs.Ytlmkcakmeldfeaa.Q
namespace Go.Proofs.Ytlmkcakmeldfeaa.Q
set_option maxRecDepth 100000
open Go.RowKit
open Go.Deep
set_option maxHeartbeats 4000000 in
theorem do_ceil (ao : Option Addr) (ps : List Pr) (n cap : Nat) (op : OpQ) (w : World) (h : MpV w ao n cap ps) (hst : Str ps) (hw : Wd ps) (hl : n ≤ 1000) (hd : op.d = 4) :
    Calls Try.prog 23 #[.agg #[.slice ao n cap], .agg #[.int .i64 op.d, .int .u64 op.k, .int .u64 op.v, .int .i64 op.n, .int .i64 op.t]] w fun o w' => DoP w ps op o w' := by
  obtain ⟨A, hA⟩ : ∃ A, clH ps op.k = A := ⟨_, rfl⟩
  obtain ⟨B, hB⟩ : ∃ B, clV ps op.k = B := ⟨_, rfl⟩
  have e1 : doM ps op = ps := by unfold doM; rw [if_neg (by omega), if_neg (by omega)]
  have e2 : doH ps op = A := by unfold doH; rw [if_neg (by omega), if_pos hd]; exact hA
  have e3 : doG ps op = B := by unfold doG; rw [if_neg (by omega), if_pos hd]; exact hB
  have e4 : doK ps op = [] := by unfold doK; rw [if_neg (by omega)]
  have EE : Hid _ := And.intro e1 (And.intro e2 (And.intro e3 e4))
  clear e1 e2 e3 e4
  obtain ⟨d, k, v, nn, t⟩ := op
  simp only at hd
  subst hd
  have D0 := Db.new w ao n cap ⟨4, k, v, nn, t⟩
  go_enter Try.func23, Try.ntmps23
  go_wp2_with fail
  refine gen_world (fun W => Db w W w.heap.size ao n cap ⟨4, k, v, nn, t⟩) D0 ?_
  clear D0
  intro W D
  obtain ⟨H, hH⟩ : ∃ H, H = w.heap.size := ⟨_, rfl⟩
  rw [← hH] at D ⊢
  clear hH
  have HS : Hid (∀ W' : World, Kept [H + 1 + 1, H + 1 + 1 + 1] W W' → W'.cell? ⟨H, 0, none⟩ = some (.slice ao n cap) ∧ W'.cell? ⟨H + 1, 1, none⟩ = some (.int .u64 k) ∧ W'.cell? ⟨H + 1, 2, none⟩ = some (.int .u64 v) ∧ W'.cell? ⟨H + 1, 3, none⟩ = some (.int .i64 nn)) := fun W' k' =>
    ⟨cell_of_blk (k'.blk D.z0 (by simp; omega)) (i := 0) rfl, cell_of_blk (k'.blk D.z1 (by simp)) (i := 1) rfl, cell_of_blk (k'.blk D.z1 (by simp)) (i := 2) rfl, cell_of_blk (k'.blk D.z1 (by simp)) (i := 3) rfl⟩
  have G : Hid (∀ W' : World, Kept [] W W' → Calls Try.prog 44 #[.agg #[.slice ao n cap], .int .u64 k] W' fun o w' => o = .returned (.agg #[.bool false, .bool A, .int .u64 B, .slice none 0 0]) ∧ Kept [] W w' ∧ Kept [] W' w') := fun W' k' => by rw [← hA, ← hB]; exact (ceiling_any ao ps n cap k W' (h.new (D.kept.trans k')) hst hw hl).mono fun _ _ hh => ⟨hh.1, k'.trans hh.2, hh.2⟩
  have HM : Hid (MpV w ao n cap ps) := h
  clear h hA hB
  go_region_held3 (fun W' => W'.cell? ⟨H, 0, none⟩ = some (.slice ao n cap) ∧ W'.cell? ⟨H + 1, 1, none⟩ = some (.int .u64 k) ∧ W'.cell? ⟨H + 1, 2, none⟩ = some (.int .u64 v) ∧ W'.cell? ⟨H + 1, 3, none⟩ = some (.int .i64 nn))
    (exact HS.out _ (by (repeat (first | (with_reducible refine Kept.setCell ?_ ?_ _) | (with_reducible refine Kept.drew ?_))); (first | exact Kept.weaken (l := []) (by with_reducible assumption) (by simp) | (with_reducible exact Kept.refl _ _)); all_goals (refine Or.inl ?_; simp; done)))
    (first | (go_at_call 44; refine (G.out _ (by first | assumption | exact (Kept.refl _ _).drew)).mono ?_; rintro e w5 ⟨rfl, K5, J5⟩; have s0 := cell_of_blk (K5.blk D.z2 (by simp)) (i := 0) rfl; have f0 := free_of_blk (K5.blk D.z2 (by simp)); have s1 := cell_of_blk (K5.blk D.z3 (by simp)) (i := 0) rfl; have s2 := cell_of_blk (K5.blk D.z3 (by simp)) (i := 1) rfl; have s3 := cell_of_blk (K5.blk D.z3 (by simp)) (i := 2) rfl; have s4 := cell_of_blk (K5.blk D.z3 (by simp)) (i := 3) rfl; have f1 := free_of_blk (K5.blk D.z3 (by simp))))
  all_goals
    go_wp2
    have F := (D.kept' K5).fin (bo := ao) (m := n) (cb := cap) (h := A) (g := B) (ko := none) (kn := 0) (kc := 0) (MpV.new HM.out (D.kept.trans K5)) (ks := []) (fun h => absurd h (by simp)) (by simp)
    unfold dEnd at F
    obtain ⟨F1, F2, F3, F4, F5⟩ := F
    have y := cell_of_blk F4 (i := 0) rfl
    have y0 := cell_of_blk F5 (i := 0) rfl
    have y1 := cell_of_blk F5 (i := 1) rfl
    have y2 := cell_of_blk F5 (i := 2) rfl
    have y3 := cell_of_blk F5 (i := 3) rfl
    refine bodyPost_ret (v := .tuple #[.agg #[.slice ao n cap], .agg #[.bool false, .bool A, .int .u64 B, .slice none 0 0]]) (by simp [results, Try.results23, go_sem, y, y0, y1, y2, y3]) rfl ?_
    exact ⟨ao, n, cap, none, 0, 0, by rw [EE.out.2.1, EE.out.2.2.1], by rw [EE.out.1]; exact F1, by rw [EE.out.2.2.2]; exact rfl, by rw [EE.out.2.2.2]; exact F2, F3⟩
end Go.Proofs.Ytlmkcakmeldfeaa.Q
namespace Go.Proofs.Ytlmkcakmeldfeaa.Q
set_option maxRecDepth 100000
open Go.RowKit
open Go.Deep
set_option maxHeartbeats 4000000 in
theorem do_range (ao : Option Addr) (ps : List Pr) (n cap : Nat) (op : OpQ) (w : World) (h : MpV w ao n cap ps) (hst : Str ps) (_hw : Wd ps) (hl : n ≤ 1000) (hd : op.d = 5) :
    Calls Try.prog 23 #[.agg #[.slice ao n cap], .agg #[.int .i64 op.d, .int .u64 op.k, .int .u64 op.v, .int .i64 op.n, .int .i64 op.t]] w fun o w' => DoP w ps op o w' := by
  obtain ⟨C, hC⟩ : ∃ C, rgK ps op.k op.v op.n = C := ⟨_, rfl⟩
  have e1 : doM ps op = ps := by unfold doM; rw [if_neg (by omega), if_neg (by omega)]
  have e2 : doH ps op = false := by unfold doH; rw [if_neg (by omega), if_neg (by omega)]
  have e3 : doG ps op = 0 := by unfold doG; rw [if_neg (by omega), if_neg (by omega)]
  have e4 : doK ps op = C := by unfold doK; rw [if_pos hd]; exact hC
  have EE : Hid _ := And.intro e1 (And.intro e2 (And.intro e3 e4))
  clear e1 e2 e3 e4
  obtain ⟨d, k, v, nn, t⟩ := op
  simp only at hd
  subst hd
  have D0 := Db.new w ao n cap ⟨5, k, v, nn, t⟩
  go_enter Try.func23, Try.ntmps23
  go_wp2_with fail
  refine gen_world (fun W => Db w W w.heap.size ao n cap ⟨5, k, v, nn, t⟩) D0 ?_
  clear D0
  intro W D
  obtain ⟨H, hH⟩ : ∃ H, H = w.heap.size := ⟨_, rfl⟩
  rw [← hH] at D ⊢
  clear hH
  have HS : Hid (∀ W' : World, Kept [H + 1 + 1, H + 1 + 1 + 1] W W' → W'.cell? ⟨H, 0, none⟩ = some (.slice ao n cap) ∧ W'.cell? ⟨H + 1, 1, none⟩ = some (.int .u64 k) ∧ W'.cell? ⟨H + 1, 2, none⟩ = some (.int .u64 v) ∧ W'.cell? ⟨H + 1, 3, none⟩ = some (.int .i64 nn)) := fun W' k' =>
    ⟨cell_of_blk (k'.blk D.z0 (by simp; omega)) (i := 0) rfl, cell_of_blk (k'.blk D.z1 (by simp)) (i := 1) rfl, cell_of_blk (k'.blk D.z1 (by simp)) (i := 2) rfl, cell_of_blk (k'.blk D.z1 (by simp)) (i := 3) rfl⟩
  have M : Hid (∀ W' : World, Kept [] W W' → Calls Try.prog 45 #[.agg #[.slice ao n cap], .int .u64 k, .int .u64 v, .int .i64 nn] W' fun o w' => ∃ ko kn kc, o = .returned (.slice ko kn kc) ∧ Hid (kn = C.length ∧ Sl w' ko C ∧ ∀ ad, ko = some ad → H + 1 + 1 + 1 + 1 ≤ ad.block) ∧ Kept [] W w') := fun W' k' => by rw [← hC]; exact (keys_any ao ps n cap k v nn W' (h.new (D.kept.trans k')) hst hl).mono fun _ _ hh => by obtain ⟨a, b, c, q1, q2, q3, q4, q5⟩ := hh; exact ⟨a, b, c, q1, ⟨q2, q3, fun ad e => by have := q4 ad e; have := lt_of_blk (k'.blk D.z3 (by simp)); omega⟩, k'.trans q5⟩
  have HM : Hid (MpV w ao n cap ps) := h
  clear h hC
  go_region_held3 (fun W' => W'.cell? ⟨H, 0, none⟩ = some (.slice ao n cap) ∧ W'.cell? ⟨H + 1, 1, none⟩ = some (.int .u64 k) ∧ W'.cell? ⟨H + 1, 2, none⟩ = some (.int .u64 v) ∧ W'.cell? ⟨H + 1, 3, none⟩ = some (.int .i64 nn))
    (exact HS.out _ (by (repeat (first | (with_reducible refine Kept.setCell ?_ ?_ _) | (with_reducible refine Kept.drew ?_))); (first | exact Kept.weaken (l := []) (by with_reducible assumption) (by simp) | (with_reducible exact Kept.refl _ _)); all_goals (refine Or.inl ?_; simp; done)))
    (first | (go_at_call 45; refine (M.out _ (by first | assumption | exact (Kept.refl _ _).drew)).mono ?_; rintro e w5 ⟨ko, kn, kc, rfl, Q5, K5⟩; have s0 := cell_of_blk (K5.blk D.z2 (by simp)) (i := 0) rfl; have f0 := free_of_blk (K5.blk D.z2 (by simp)); have s1 := cell_of_blk (K5.blk D.z3 (by simp)) (i := 0) rfl; have s2 := cell_of_blk (K5.blk D.z3 (by simp)) (i := 1) rfl; have s3 := cell_of_blk (K5.blk D.z3 (by simp)) (i := 2) rfl; have s4 := cell_of_blk (K5.blk D.z3 (by simp)) (i := 3) rfl; have f1 := free_of_blk (K5.blk D.z3 (by simp))))
  all_goals
    go_wp2
    have F := (D.kept' K5).fin (bo := ao) (m := n) (cb := cap) (h := false) (g := 0) (ko := ko) (kn := kn) (kc := kc) (MpV.new HM.out (D.kept.trans K5)) Q5.out.2.1 Q5.out.2.2
    unfold dEnd at F
    obtain ⟨F1, F2, F3, F4, F5⟩ := F
    have y := cell_of_blk F4 (i := 0) rfl
    have y0 := cell_of_blk F5 (i := 0) rfl
    have y1 := cell_of_blk F5 (i := 1) rfl
    have y2 := cell_of_blk F5 (i := 2) rfl
    have y3 := cell_of_blk F5 (i := 3) rfl
    refine bodyPost_ret (v := .tuple #[.agg #[.slice ao n cap], .agg #[.bool false, .bool false, .int .u64 0, .slice ko kn kc]]) (by simp [results, Try.results23, go_sem, y, y0, y1, y2, y3]) rfl ?_
    exact ⟨ao, n, cap, ko, kn, kc, by rw [EE.out.2.1, EE.out.2.2.1], by rw [EE.out.1]; exact F1, by rw [EE.out.2.2.2]; exact Q5.out.1, by rw [EE.out.2.2.2]; exact F2, F3⟩
end Go.Proofs.Ytlmkcakmeldfeaa.Q
namespace Go.Proofs.Ytlmkcakmeldfeaa.Q
set_option maxRecDepth 100000
open Go.RowKit
open Go.Deep
set_option maxHeartbeats 4000000 in
theorem do_none (ao : Option Addr) (ps : List Pr) (n cap : Nat) (op : OpQ) (w : World) (h : MpV w ao n cap ps) (_hst : Str ps) (_hw : Wd ps) (_hl : n ≤ 1000) (hd : ¬ (op.d = 1 ∨ op.d = 2 ∨ op.d = 3 ∨ op.d = 4 ∨ op.d = 5)) :
    Calls Try.prog 23 #[.agg #[.slice ao n cap], .agg #[.int .i64 op.d, .int .u64 op.k, .int .u64 op.v, .int .i64 op.n, .int .i64 op.t]] w fun o w' => DoP w ps op o w' := by
  have e1 : doM ps op = ps := by unfold doM; rw [if_neg (by omega), if_neg (by omega)]
  have e2 : doH ps op = false := by unfold doH; rw [if_neg (by omega), if_neg (by omega)]
  have e3 : doG ps op = 0 := by unfold doG; rw [if_neg (by omega), if_neg (by omega)]
  have e4 : doK ps op = [] := by unfold doK; rw [if_neg (by omega)]
  have EE : Hid _ := And.intro e1 (And.intro e2 (And.intro e3 e4))
  clear e1 e2 e3 e4
  obtain ⟨d, k, v, nn, t⟩ := op
  simp only at hd
  have n1 : ¬ d = 1 := by omega
  have n2 : ¬ d = 2 := by omega
  have n3 : ¬ d = 3 := by omega
  have n4 : ¬ d = 4 := by omega
  have n5 : ¬ d = 5 := by omega
  have HM : Hid (MpV w ao n cap ps) := h
  clear h hd
  go_enter Try.func23, Try.ntmps23
  go_wp2
  have KF : Kept [] w ((((w.alloc (.cells #[.slice ao n cap] 35)).alloc (.cells #[.int .i64 d, .int .u64 k, .int .u64 v, .int .i64 nn, .int .i64 t] 43)).alloc (.cells #[.slice ao n cap] 35)).alloc (.cells #[.bool false, .bool false, .int .u64 0, .slice none 0 0] 46)) := ((((Kept.refl _ _).alloc _).alloc _).alloc _).alloc _
  refine bodyPost_ret (v := .tuple #[.agg #[.slice ao n cap], .agg #[.bool false, .bool false, .int .u64 0, .slice none 0 0]]) (by simp [results, Try.results23, go_sem]) rfl ?_
  exact ⟨ao, n, cap, none, 0, 0, by rw [EE.out.2.1, EE.out.2.2.1], by rw [EE.out.1]; exact MpV.new HM.out KF, by rw [EE.out.2.2.2]; rfl, by rw [EE.out.2.2.2]; exact fun h => absurd h (by simp), KF⟩
end Go.Proofs.Ytlmkcakmeldfeaa.Q
namespace Go.Proofs.Ytlmkcakmeldfeaa.Q
open Go.RowKit
open Go.Deep
theorem do_any (ao : Option Addr) (ps : List Pr) (n cap : Nat) (op : OpQ) (w : World) (h : MpV w ao n cap ps) (hst : Str ps) (hw : Wd ps) (hl : n ≤ 1000) :
    Calls Try.prog 23 #[.agg #[.slice ao n cap], .agg #[.int .i64 op.d, .int .u64 op.k, .int .u64 op.v, .int .i64 op.n, .int .i64 op.t]] w fun o w' => DoP w ps op o w' := by
  by_cases h1 : op.d = 1
  · exact do_get ao ps n cap op w h hst hw hl h1
  · by_cases h2 : op.d = 2
    · exact do_put ao ps n cap op w h hst hw hl h2
    · by_cases h3 : op.d = 3
      · exact do_del ao ps n cap op w h hst hw hl h3
      · by_cases h4 : op.d = 4
        · exact do_ceil ao ps n cap op w h hst hw hl h4
        · by_cases h5 : op.d = 5
          · exact do_range ao ps n cap op w h hst hw hl h5
          · exact do_none ao ps n cap op w h hst hw hl (by omega)
/-- The same, its answer under names. -/
theorem do_at (ao : Option Addr) (ps : List Pr) (n cap : Nat) (d k v nn t : Int) (w : World) (h : MpV w ao n cap ps) (hst : Str ps) (hw : Wd ps) (hl : n ≤ 1000) (ps' : List Pr) (hh : Bool) (g : Int) (ks : List Int)
    (e1 : doM ps ⟨d, k, v, nn, t⟩ = ps') (e2 : doH ps ⟨d, k, v, nn, t⟩ = hh) (e3 : doG ps ⟨d, k, v, nn, t⟩ = g) (e4 : doK ps ⟨d, k, v, nn, t⟩ = ks) :
    Calls Try.prog 23 #[.agg #[.slice ao n cap], .agg #[.int .i64 d, .int .u64 k, .int .u64 v, .int .i64 nn, .int .i64 t]] w fun o w' => ∃ bo m cb ko kn kc, o = .returned (.tuple #[.agg #[.slice bo m cb], .agg #[.bool false, .bool hh, .int .u64 g, .slice ko kn kc]]) ∧ Hid (MpV w' bo m cb ps' ∧ kn = ks.length ∧ Sl w' ko ks) ∧ Kept [] w w' := by
  refine (do_any ao ps n cap ⟨d, k, v, nn, t⟩ w h hst hw hl).mono ?_
  rintro o w' ⟨bo, m, cb, ko, kn, kc, rfl, M, ek, S, K⟩
  rw [e1] at M
  rw [e4] at ek S
  exact ⟨bo, m, cb, ko, kn, kc, by rw [e2, e3], ⟨M, ek, S⟩, K⟩
end Go.Proofs.Ytlmkcakmeldfeaa.Q
