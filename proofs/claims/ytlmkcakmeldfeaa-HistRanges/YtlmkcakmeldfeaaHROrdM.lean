/-
  The document's own order: the least that is left, again and again: the mathematics.
-/
import Derived.Test.YtlmkcakmeldfeaaHOrdM
namespace Go.Proofs.Ytlmkcakmeldfeaa.Q
open Go.RowKit
/-- Some that were picked, each ahead of what is left. -/
structure Pkd (es : List Ev) (o : List Nat) : Prop where
  mem : ∀ i, i ∈ o → i < es.length ∧ hpB (evAt es i) = true
  pw : o.Pairwise (ahd es)
  fst : ∀ i ∈ o, ∀ j, j < es.length → hpB (evAt es j) = true → j ∉ o → ahd es i j
theorem Pkd.nil (es : List Ev) : Pkd es [] := ⟨by simp, List.Pairwise.nil, by simp⟩
theorem Pkd.nodup {es : List Ev} {o : List Nat} (h : Pkd es o) : o.Nodup := h.pw.imp (fun {a b} hab e => by subst e; exact ahd_irr hab)
theorem Pkd.len {es : List Ev} {o : List Nat} (h : Pkd es o) : o.length ≤ es.length := nodup_le h.nodup (fun i hi => (h.mem i hi).1)
/-- Left, among those that are not picked. -/
def lft (es : List Ev) (o : List Nat) (j : Nat) : Prop := hpB (evAt es j) = true ∧ j ∉ o
/-- The best of the first k. -/
def Best (es : List Ev) (o : List Nat) (k : Nat) : Option Nat → Prop
  | none => ∀ j, j < k → ¬ lft es o j
  | some b => b < k ∧ lft es o b ∧ ∀ j, j < k → lft es o j → j = b ∨ ahd es b j
theorem Best.start (es : List Ev) (o : List Nat) : Best es o 0 none := fun j hj => absurd hj (by omega)
theorem Best.skip {es : List Ev} {o : List Nat} {k : Nat} {b : Option Nat} (h : Best es o k b) (hk : ¬ lft es o k) : Best es o (k + 1) b := by
  cases b with
  | none =>
    intro j hj hl
    by_cases q : j = k
    · subst q; exact hk hl
    · exact h j (by omega) hl
  | some b =>
    refine ⟨by have := h.1; omega, h.2.1, fun j hj hl => ?_⟩
    by_cases q : j = k
    · subst q; exact absurd hl hk
    · exact h.2.2 j (by omega) hl
theorem Best.first {es : List Ev} {o : List Nat} {k : Nat} (h : Best es o k none) (hk : lft es o k) : Best es o (k + 1) (some k) :=
  ⟨by omega, hk, fun j hj hl => by
    by_cases q : j = k
    · exact Or.inl q
    · exact absurd hl (h j (by omega))⟩
theorem Best.better {es : List Ev} {o : List Nat} {k b : Nat} (h : Best es o k (some b)) (hk : lft es o k) (hlt : (evAt es k).at_ < (evAt es b).at_) : Best es o (k + 1) (some k) :=
  ⟨by omega, hk, fun j hj hl => by
    by_cases q : j = k
    · exact Or.inl q
    · right
      rcases h.2.2 j (by omega) hl with e | e
      · subst e; exact Or.inl hlt
      · unfold ahd at *; omega⟩
theorem Best.worse {es : List Ev} {o : List Nat} {k b : Nat} (h : Best es o k (some b)) (hlt : ¬ (evAt es k).at_ < (evAt es b).at_) : Best es o (k + 1) (some b) :=
  ⟨by have := h.1; omega, h.2.1, fun j hj hl => by
    by_cases q : j = k
    · subst q; right; have := h.1; unfold ahd; omega
    · exact h.2.2 j (by omega) hl⟩
theorem Pkd.next {es : List Ev} {o : List Nat} {b : Nat} (h : Pkd es o) (hb : Best es o es.length (some b)) : Pkd es (o ++ [b]) := by
  refine ⟨fun i hi => ?_, ?_, fun i hi j hj hp hn => ?_⟩
  · rcases List.mem_append.1 hi with q | q
    · exact h.mem i q
    · simp at q; subst q; exact ⟨hb.1, hb.2.1.1⟩
  · rw [List.pairwise_append]
    refine ⟨h.pw, by simp, fun x hx y hy => ?_⟩
    simp at hy; subst hy
    exact h.fst x hx y hb.1 hb.2.1.1 hb.2.1.2
  · have hn' : j ∉ o ∧ j ≠ b := by simpa using hn
    rcases List.mem_append.1 hi with q | q
    · exact h.fst i q j hj hp hn'.1
    · simp at q; subst q
      rcases hb.2.2 j hj ⟨hp, hn'.1⟩ with e | e
      · exact absurd e hn'.2
      · exact e
theorem Pkd.done {es : List Ev} {o : List Nat} (h : Pkd es o) (hb : Best es o es.length none) : IsOrd es o := by
  refine ⟨fun i => ⟨fun hi => h.mem i hi, fun hi => ?_⟩, h.pw⟩
  by_cases q : i ∈ o
  · exact q
  · exact absurd ⟨hi.2, q⟩ (hb i hi.1)
theorem Pkd.full {es : List Ev} {o : List Nat} (h : Pkd es o) (hl : o.length = es.length) : IsOrd es o := by
  refine ⟨fun i => ⟨fun hi => h.mem i hi, fun hi => ?_⟩, h.pw⟩
  by_cases q : i ∈ o
  · exact q
  · have := nodup_le (n := es.length) (o := i :: o) (List.nodup_cons.2 ⟨q, h.nodup⟩) (fun j hj => by
      rcases List.mem_cons.1 hj with e | e
      · subst e; exact hi.1
      · exact (h.mem j e).1)
    simp at this; omega
end Go.Proofs.Ytlmkcakmeldfeaa.Q
