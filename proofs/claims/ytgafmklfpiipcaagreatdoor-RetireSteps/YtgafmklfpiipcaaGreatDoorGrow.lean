/-
  Rows of things of n cells each, with spare places, as 'append' makes them: 'append' of one thing.
-/
import Derived.Test.YtgafmklfpiipcaaGreatDoorMem
import Derived.Laws.AppendOwnNone
namespace Go.Proofs.YtgafmklfpiipcaaGreatDoor
open Go.ChangeShapes Go.WideShapes Go.ChangeAt Go.RowKit
open Go.Deep
/-- A world gets a name of its own; of it these facts are known. -/
theorem gen_world {P : Program} {c : Code} {Q : Exit → Act → World → Prop} {a : Act} {w0 : World} (R : World → Prop) (h : R w0) (k : ∀ W, R W → Code.wp P c Q a W) : Code.wp P c Q a w0 := k w0 h
theorem blk_alloc (w : World) (o : Obj) (k : Nat) : (w.alloc o).heap[k]? = if k = w.heap.size then some o else w.heap[k]? := by
  by_cases h : k = w.heap.size
  · subst h; rw [blk_alloc_new]; simp
  · rw [if_neg h]
    by_cases hk : k < w.heap.size
    · exact blk_alloc_lt _ _ _ hk
    · rw [Array.getElem?_eq_none (by rw [nblk_alloc]; omega), Array.getElem?_eq_none (by omega)]
theorem wpList_append_run {P : Program} {w : World} {ops : Array Oper} {rest : List Oper} {o : Oper} {a : Act} {Q : Exit → Act → World → Prop} (hgd : o.guard = none) (s x : Operand) (t : TypeId)
    (ho : o.op = .call { callee := .builtin .append, args := #[s, x], argTypes := #[t, t] }) {v u r : Value} {w1 : World} (hs : a.eval s = v) (hx : a.eval x = u) (hrun : (Builtin.append_ #[t, t] o.type #[v, u]).run P w = .ok r w1)
    (h : wpList P ops Q rest (a.put o.dst r) w1) : wpList P ops Q (o :: rest) a w := by
  refine wpList_plain hgd fun K hK => ?_
  unfold Oper.wp
  simp [execOp, ho, resolve, invoke, builtin, hs, hx, hrun, Result.andThen]
  exact hK _ _ h
/-- A row of cells of that type, of so many places (cells). -/
def RowG (w : World) (g : Nat) (T : TypeId) (n : Nat) (xs : List Value) (cap : Nat) : Prop := cap ≤ maxLen ∧ xs.length ≤ cap * n ∧ ∃ rest : List Value, w.heap[g]? = some (.cells (xs ++ rest).toArray T (0, 0)) ∧ xs.length + rest.length = cap * n
theorem RowG.kept {l : List Nat} {w w' : World} {g : Nat} {T : TypeId} {n cap : Nat} {xs : List Value} (h : RowG w g T n xs cap) (k : Kept l w w') (hn : g ∉ l) : RowG w' g T n xs cap := by
  obtain ⟨h0, h1, rest, h2, h3⟩ := h; exact ⟨h0, h1, rest, k.blk h2 hn, h3⟩
theorem RowG.lt {w : World} {g : Nat} {T : TypeId} {n cap : Nat} {xs : List Value} (h : RowG w g T n xs cap) : g < w.heap.size := by
  obtain ⟨h0, h1, rest, h2, h3⟩ := h; exact lt_of_blk h2
theorem RowG.cell {w : World} {g : Nat} {T : TypeId} {n cap : Nat} {xs : List Value} (h : RowG w g T n xs cap) {j : Nat} {v : Value} (hj : xs[j]? = some v) : w.cell? ⟨g, j, none⟩ = some v := by
  obtain ⟨h0, h1, rest, h2, h3⟩ := h
  refine cell_of_blk h2 ?_
  rw [List.getElem?_toArray, List.getElem?_append_left (List.getElem?_eq_some_iff.1 hj).1]; exact hj
theorem RowG.ne {w : World} {g b : Nat} {T t : TypeId} {n cap : Nat} {xs : List Value} {c : Array Value} (h : RowG w g T n xs cap) (z : w.heap[b]? = some (.cells c t (0, 0))) (ht : t ≠ T) : ¬ g = b := by
  rintro rfl
  obtain ⟨h0, h1, rest, h2, h3⟩ := h
  rw [h2] at z; simp at z; exact ht z.2.symm
/-- What a slice literal makes. -/
theorem RowG.new (w : World) (T : TypeId) (n : Nat) (xs : List Value) (m : Nat) (hm : m ≤ maxLen) (hx : xs.length = m * n) : RowG (w.alloc (.cells xs.toArray T)) w.heap.size T n xs m :=
  ⟨hm, by omega, [], by rw [blk_alloc_new]; simp, by simp [hx]⟩
theorem info_parts' {P : Program} {t : TypeId} {z : Value} {n b : Nat} (h : (P.info? t).map (fun i => (i.zero, i.size, i.bytes)) = some (some z, n, b)) : ∃ i, P.info? t = some i ∧ i.zero = some z ∧ i.size = n ∧ i.bytes = b := by
  obtain ⟨i, hi, he⟩ := Option.map_eq_some_iff.1 h
  simp only [Prod.mk.injEq] at he
  exact ⟨i, hi, he.1, he.2.1, he.2.2⟩
/-- 'append' of one thing that a literal has just made. -/
theorem append_one {P : Program} {t ty e : TypeId} {z : Value} {n bytes : Nat} (ht : P.underlying t = some (.slice e)) (hinfo : (P.info? e).map (fun i => (i.zero, i.size, i.bytes)) = some (some z, n, bytes)) (hz : z.cells.size = n) (hn : 0 < n)
    (w : World) (base g m cap : Nat) (xs ys : List Value) (hR : RowG w g e n xs cap) (hl : xs.length = m * n) (hy : ys.length = n) (h1 : ∀ u ∈ ys, u.oneCell' = true) (hb : base ≤ g) (hm : m + 1 ≤ maxLen) (hbytes : (m + 1) * bytes ≤ 140737488355328) :
    ∃ g' cap' w1, (Builtin.append_ #[t, t] ty #[.slice (some ⟨g, 0, none⟩) m cap, .slice (some ⟨w.heap.size, 0, none⟩) 1 1]).run P (w.alloc (.cells ys.toArray e)) = .ok (.slice (some ⟨g', 0, none⟩) (m + 1) cap') w1 ∧ base ≤ g' ∧ RowG w1 g' e n (xs ++ ys) cap' ∧ Kept [g] w w1 := by
  obtain ⟨i, hi, hz0, hz1, hz2⟩ := info_parts' hinfo
  have hgw := hR.lt
  have hmc : m ≤ cap := Nat.le_of_mul_le_mul_right (show m * n ≤ cap * n by rw [← hl]; exact hR.2.1) hn
  have hR' := hR.kept ((Kept.refl [] w).alloc (.cells ys.toArray e)) (by simp)
  obtain ⟨c0, c1, rest, hblk, hlen⟩ := hR'
  have hown : (w.alloc (.cells ys.toArray e)).ownsRow base e n (.slice (some ⟨g, 0, none⟩) m cap) m xs :=
    ⟨hl, Or.inr ⟨g, cap, (xs ++ rest).toArray, rfl, hb, hblk, hmc, c0, by simpa using hlen, by simp [← hl]⟩⟩
  have hnews : ∀ j u, ys[j]? = some u → (w.alloc (.cells ys.toArray e)).cell? ((⟨w.heap.size, 0, none⟩ : Addr).add j) = some u := by
    intro j u hj
    rw [addr_add0]
    exact cell_of_blk (blk_alloc_new w _) (by rw [List.getElem?_toArray]; exact hj)
  obtain ⟨v', w1, hrun, hown', hg, hnil⟩ := run_append_own (P := P) (w.alloc (.cells ys.toArray e)) base t ty e i z n bytes ht hi hz0 hz1 hz2 hz hn _ m xs hown ⟨w.heap.size, 0, none⟩ 1 1 ys (by omega) hnews h1 hm hbytes (by rw [nblk_alloc]; omega)
  obtain ⟨k1, k2⟩ := hown'
  rcases k2 with ⟨k2, _⟩ | ⟨g', cap', cur, rfl, hgb, hbl, hnc, hcm, hsz, htk⟩
  · exact absurd (hnil.1 k2).1 (by simp)
  · refine ⟨g', cap', w1, hrun, hgb, ⟨hcm, ?_, cur.toList.drop ((m + 1) * n), ?_, ?_⟩, ?_⟩
    · rw [k1]; exact Nat.mul_le_mul_right n hnc
    · rw [hbl]
      have : cur = (xs ++ ys ++ cur.toList.drop ((m + 1) * n)).toArray := by
        rw [← htk]; apply Array.toList_inj.1; simp
      rw [← this]
    · have := Nat.mul_le_mul_right n hnc
      rw [k1, List.length_drop, Array.length_toList]; omega
    · refine ((Kept.refl [g] w).alloc (.cells ys.toArray e)).then (m := [g]) ⟨hg.os, hg.tape, hg.output, hg.size, fun k hk hn => hg.block k hk (fun e => hn (by simp [Value.ownBlock] at e; simp [e]))⟩ (by simp)
end Go.Proofs.YtgafmklfpiipcaaGreatDoor
