/-
  Data that lie flat: arguments that are made of integers, bools and strings, structs and arrays of these, and slices of such, opened by their type's own layout.
-/
import Derived.Test.YtgafmklfpiipcaaGreatDoorMem
import Derived.SizedLaws
import Derived.Carry
import Derived.Deep.Slices
namespace Go.Proofs.YtgafmklfpiipcaaGreatDoor
open Go.ChangeShapes Go.WideShapes Go.ChangeAt Go.RowKit
open Go.Deep

inductive Lk where
  | int (k : IntKind)
  | bool
  | str
def Lv : Lk → Value → Prop
  | .int k, v => ∃ n, v = .int k n ∧ (Lit.int k n).wf = true
  | .bool, v => ∃ b, v = .bool b
  | .str, v => ∃ s : ByteArray, v = .string s ∧ s.size ≤ maxLen
def F2 : List Lk → List Value → Prop
  | [], [] => True
  | k :: ks, c :: cs => Lv k c ∧ F2 ks cs
  | _, _ => False
theorem F2_append : ∀ {a b : List Lk} {c d : List Value}, F2 a c → F2 b d → F2 (a ++ b) (c ++ d)
  | [], _, [], _, _, h => h
  | _ :: _, _, _ :: _, _, h, k => ⟨h.1, F2_append h.2 k⟩
  | [], _, _ :: _, _, h, _ => False.elim h
  | _ :: _, _, [], _, h, _ => False.elim h
theorem F2_length : ∀ {a : List Lk} {c : List Value}, F2 a c → a.length = c.length
  | [], [], _ => rfl
  | _ :: _, _ :: _, h => by simpa using F2_length h.2
  | [], _ :: _, h => False.elim h
  | _ :: _, [], h => False.elim h
theorem F2_cons {k : Lk} {ks : List Lk} {cs : List Value} (h : F2 (k :: ks) cs) : ∃ c r, cs = c :: r ∧ Lv k c ∧ F2 ks r := by
  cases cs with
  | nil => exact False.elim h
  | cons c r => exact ⟨c, r, rfl, h.1, h.2⟩
theorem F2_int {k : IntKind} {ks : List Lk} {cs : List Value} (h : F2 (.int k :: ks) cs) : ∃ n r, cs = .int k n :: r ∧ (Lit.int k n).wf = true ∧ F2 ks r := by
  obtain ⟨c, r, rfl, ⟨n, rfl, hw⟩, h2⟩ := F2_cons h; exact ⟨n, r, rfl, hw, h2⟩
theorem F2_bool {ks : List Lk} {cs : List Value} (h : F2 (.bool :: ks) cs) : ∃ b r, cs = .bool b :: r ∧ F2 ks r := by
  obtain ⟨c, r, rfl, ⟨b, rfl⟩, h2⟩ := F2_cons h; exact ⟨b, r, rfl, h2⟩
theorem F2_nil {cs : List Value} (h : F2 [] cs) : cs = [] := by
  cases cs with
  | nil => rfl
  | cons c r => exact False.elim h
theorem glue : ∀ (xs : List (List Lk)) (cs : List Value), cs.length = xs.flatten.length →
    (∀ i (h : i < xs.length), F2 xs[i] ((cs.drop (xs.take i).flatten.length).take xs[i].length)) → F2 xs.flatten cs
  | [], cs, hl, _ => by
    have : cs = [] := List.eq_nil_of_length_eq_zero (by simpa using hl)
    subst this; trivial
  | a :: r, cs, hl, h => by
    rw [List.flatten_cons, ← List.take_append_drop a.length cs]
    refine F2_append (by have := h 0 (by simp); simp only [List.take_zero, List.flatten_nil, List.length_nil, List.drop_zero, List.getElem_cons_zero] at this; exact this) (glue r _ (by simp at hl ⊢; omega) fun i hi => ?_)
    have := h (i + 1) (by simpa using hi)
    simpa [List.drop_drop] using this

/-- The flat layout of a type, if it has one. -/
def flat (P : Program) : Nat → TypeId → Option (List Lk)
  | 0, _ => none
  | n + 1, t =>
    match P.underlying t with
    | some (.int k) => some [.int k]
    | some .bool => some [.bool]
    | some .string => some [.str]
    | some (.array m e) =>
      match flat P n e with
      | some ks => if P.cellsOf e = ks.length ∧ P.cellsOf t = (List.replicate m ks).flatten.length then some (List.replicate m ks).flatten else none
      | none => none
    | some (.struct fs) =>
      match fs.toList.mapM (fun f => flat P n f.type) with
      | some xs => if P.cellsOf t = xs.flatten.length ∧ (List.range xs.length).all (fun i => (fs[i]?.map (fun f => (f.offset, P.cellsOf f.type))) == some ((xs.take i).flatten.length, (xs.getD i []).length)) = true then some xs.flatten else none
      | none => none
    | _ => none

section
variable {H : Type} {enc : TypeId × Value → H} {P : Program} {w : World} {base : Nat} {spare : Nat → Bool} {held : Bool}
theorem flat_trod : ∀ (n : Nat) {t : TypeId} {fuel : Nat} {cs : List Value} {x : DataW H × List MemPlace} {ks : List Lk}, flat P n t = some ks → DataW.trod enc P w base spare held fuel t cs = some x → F2 ks cs
  | 0, _, _, _, _, _, hf, _ => by simp [flat] at hf
  | n + 1, t, fuel, cs, x, ks, hf, h => by
    unfold flat at hf
    split at hf
    · rename_i k hu
      obtain ⟨m, rfl, _, hw⟩ := DataW.trod_int hu h
      cases hf
      exact ⟨⟨m, rfl, hw⟩, trivial⟩
    · rename_i hu
      obtain ⟨b, rfl, _⟩ := DataW.trod_bool hu h
      cases hf
      exact ⟨⟨b, rfl⟩, trivial⟩
    · rename_i hu
      obtain ⟨s, rfl, _, hs⟩ := DataW.trod_string hu h
      cases hf
      exact ⟨⟨s, rfl, hs⟩, trivial⟩
    · rename_i m e hu
      split at hf
      · rename_i es he
        split at hf
        · rename_i hc
          cases hf
          obtain ⟨xs, m', _, _, hlen, hxl, hx⟩ := DataW.trod_array hu h
          refine glue _ _ (by rw [hlen]; exact hc.2) fun i hi => ?_
          have hi' : i < m := by simpa using hi
          have h1 := hx i hi'
          rw [List.getElem?_eq_getElem (by omega)] at h1
          have h2 := flat_trod n he h1
          simp only [List.getElem_replicate]
          have e1 : ((List.replicate m es).take i).flatten.length = i * es.length := by
            rw [List.take_replicate, List.length_flatten, List.map_replicate, List.sum_replicate_nat, Nat.min_eq_left (by omega)]
          rw [e1, ← hc.1]
          exact h2
        · cases hf
      · cases hf
    · rename_i fs hu
      split at hf
      · rename_i ls hls
        split at hf
        · rename_i hc
          cases hf
          obtain ⟨xs, m', _, _, hlen, hxl, hx⟩ := DataW.trod_struct hu h
          refine glue _ _ (by rw [hlen]; exact hc.1) fun i hi => ?_
          have h3 := List.all_eq_true.1 hc.2 i (by simpa using hi)
          rw [beq_iff_eq] at h3
          obtain ⟨f, hfi, hfe⟩ := Option.map_eq_some_iff.1 h3
          simp only [Prod.mk.injEq] at hfe
          have h1 := hx i f hfi
          have hxi : i < xs.length := by
            have : i < fs.size := (Array.getElem?_eq_some_iff.1 hfi).1
            omega
          rw [List.getElem?_eq_getElem hxi] at h1
          have h4 : flat P n f.type = some ls[i] := by
            have := mapM_some_get hls i f (by simpa using hfi)
            rw [List.getElem?_eq_getElem hi] at this
            exact this
          have h2 := flat_trod n h4 h1
          rw [hfe.1, hfe.2] at h2
          simpa [List.getD, List.getElem?_eq_getElem hi] using h2
        · cases hf
      · cases hf
    · cases hf
theorem flat_agg {r : Reach} {b0 n : Nat} {t : TypeId} {v : Value} {d : DataW H} {p : List MemPlace} {ks : List Lk} (hs : (∃ fs, P.underlying t = some (.struct fs)) ∨ ∃ m e, P.underlying t = some (.array m e)) (hf : flat P n t = some ks)
    (hv : Value.okWide P w r b0 t v) (h : DataW.Trod enc P w base spare held t v d p) : ∃ cs, v = .agg cs ∧ F2 ks cs.toList := by
  obtain ⟨fuel, h⟩ := h
  have key : ∃ cs, v = .agg cs := by
    rcases hs with ⟨fs, hs⟩ | ⟨m, e, hs⟩
    · obtain ⟨cs, rfl, _⟩ := okWide_struct hs hv; exact ⟨cs, rfl⟩
    · simp only [Value.okWide, hs] at hv; obtain ⟨cs, rfl, _⟩ := hv; exact ⟨cs, rfl⟩
  obtain ⟨cs, rfl⟩ := key
  exact ⟨cs, rfl, flat_trod n hf (by simpa [Value.cells] using h)⟩
/-- A slice of things of n cells each, wherever it lies. -/
def SlOf {α : Type} (n : Nat) (f : α → List Value) (w : World) (ao : Option Addr) (xs : List α) : Prop :=
  0 < xs.length → ∃ b off, ao = some ⟨b, off, none⟩ ∧ b < w.heap.size ∧ ∀ i (h : i < xs.length) j v, (f xs[i])[j]? = some v → w.cell? ⟨b, off + i * n + j, none⟩ = some v
theorem SlOf.kept {α : Type} {n : Nat} {f : α → List Value} {l : List Nat} {w w' : World} {ao : Option Addr} {xs : List α} (h : SlOf n f w ao xs) (k : Kept l w w') (hl : ∀ ad, ao = some ad → ad.block ∉ l) : SlOf n f w' ao xs := by
  intro h0
  obtain ⟨b, off, rfl, hb, hc⟩ := h h0
  refine ⟨b, off, rfl, Nat.lt_of_lt_of_le hb k.size, fun i hi j v hv => ?_⟩
  have e : w'.heap[b]? = w.heap[b]? := k.block _ hb (hl _ rfl)
  rw [World.cell?_of_block (w := w) (a := ⟨b, off + i * n + j, none⟩) e]; exact hc i hi j v hv
theorem SlOf.new {α : Type} {n : Nat} {f : α → List Value} {w w' : World} {ao : Option Addr} {xs : List α} (h : SlOf n f w ao xs) (k : Kept [] w w') : SlOf n f w' ao xs := h.kept k (by simp)
theorem open_slice_of {α : Type} [Inhabited α] {r : Reach} {b0 n : Nat} {t e : TypeId} {v : Value} {d : DataW H} {p : List MemPlace} {ks : List Lk} (f : α → List Value) (G : α → Prop) (ht : P.underlying t = some (.slice e)) (hf : flat P n e = some ks) (hc : P.cellsOf e = ks.length)
    (hpos : 0 < ks.length) (hG : ∀ cs, F2 ks cs → ∃ x, cs = f x ∧ G x) (hv : Value.okWide P w r b0 t v) (h : DataW.Trod enc P w 0 (fun _ => true) true t v d p) :
    ∃ ao cap xs, v = .slice ao (List.length xs) cap ∧ SlOf ks.length f w ao xs ∧ (∀ x ∈ xs, G x) ∧ ((∃ el sp, d = .slice el sp ∧ el.length = List.length xs) ∨ xs = []) ∧ (ao = none → cap = 0) := by
  obtain ⟨a, len, cap, rfl⟩ := okWide_slice ht hv
  obtain ⟨fuel, hd⟩ := h
  rcases open_slice ht hd with ⟨hcs, hx⟩ | ⟨ad, len', cap', m, n', D, Pl, hcs, hb, hl, hm, hmm, hx, hall⟩
  · simp [Value.cells] at hcs
    obtain ⟨rfl, rfl, rfl⟩ := hcs
    exact ⟨none, 0, [], rfl, fun h => absurd h (by simp), by simp, Or.inr rfl, fun _ => rfl⟩
  · simp [Value.cells] at hcs
    obtain ⟨rfl, rfl, rfl⟩ := hcs
    have hml : len ≤ m := by rw [hmm]; split <;> omega
    have each : ∀ i, i < len → ∃ x : α, (G x ∧ (f x).length = ks.length) ∧ ∀ j v, (f x)[j]? = some v → w.cell? (ad.add (i * ks.length + j)) = some v := by
      intro i hi
      obtain ⟨cs', h1, h2⟩ := hall i (by omega)
      have hF := flat_trod n hf h2
      obtain ⟨x, rfl, hg⟩ := hG cs' hF
      refine ⟨x, ⟨hg, (F2_length hF).symm⟩, fun j v hj => ?_⟩
      rw [hc] at h1
      have h3 := (World.cells?_some h1).2.2 j (by rw [F2_length hF]; exact (List.getElem?_eq_some_iff.1 hj).1)
      rw [hj, Deep.add_add] at h3
      exact h3
    obtain ⟨X, hX⟩ := choose_lt each
    have hlenX : ((List.range len).map X).length = len := by simp
    refine ⟨some ad, cap, (List.range len).map X, by rw [hlenX], ?_, ?_, ?_, by simp⟩
    · intro h0
      rw [hlenX] at h0
      obtain ⟨b, off, spot⟩ := ad
      have c0 : ∃ v, (f (X 0))[0]? = some v := ⟨_, List.getElem?_eq_getElem (by have := (hX 0 h0).1.2; omega)⟩
      obtain ⟨v0, hv0⟩ := c0
      have hc0 := (hX 0 h0).2 0 v0 hv0
      have hspot : spot = none := by
        have := World.cell?_spot hc0
        rw [Nat.zero_mul] at this; simpa [Addr.add] using this
      subst hspot
      refine ⟨b, off, rfl, ?_, fun i hi j v hj => ?_⟩
      · have := lt_of_cell hc0; rwa [add_block] at this
      · rw [hlenX] at hi
        have := (hX i hi).2 j v (by simpa using hj)
        rw [add_plain] at this
        rw [Nat.add_assoc]; exact this
    · intro x hx; obtain ⟨i, hi, rfl⟩ := List.mem_map.1 hx; exact (hX i (by simpa using hi)).1.1
    · left
      simp only [Prod.mk.injEq] at hx
      exact ⟨_, _, hx.1, by simp⟩
end
end Go.Proofs.YtgafmklfpiipcaaGreatDoor
