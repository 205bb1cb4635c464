/-
  The order of events, as one list; the map at a time.
-/
import Derived.Test.YtlmkcakmeldfeaaHEvs
namespace Go.Proofs.Ytlmkcakmeldfeaa.Q
open Go.RowKit
open Go.Deep
def ahB (es : List Ev) (i j : Nat) : Bool := decide ((evAt es i).at_ < (evAt es j).at_) || (decide ((evAt es i).at_ = (evAt es j).at_) && decide (i < j))
theorem ahB_iff {es : List Ev} {i j : Nat} : ahB es i j = true ↔ ahd es i j := by unfold ahB ahd; simp
def insA (es : List Ev) (x : Nat) : List Nat → List Nat
  | [] => [x]
  | y :: l => if ahB es x y then x :: y :: l else y :: insA es x l
theorem mem_insA {es : List Ev} {x z : Nat} : ∀ {l : List Nat}, z ∈ insA es x l ↔ z = x ∨ z ∈ l
  | [] => by simp [insA]
  | y :: l => by
    unfold insA
    split
    · simp
    · rw [List.mem_cons, mem_insA, List.mem_cons]
      constructor
      · rintro (h | h | h)
        · exact Or.inr (Or.inl h)
        · exact Or.inl h
        · exact Or.inr (Or.inr h)
      · rintro (h | h | h)
        · exact Or.inr (Or.inl h)
        · exact Or.inl h
        · exact Or.inr (Or.inr h)
theorem pw_insA {es : List Ev} {x : Nat} : ∀ {l : List Nat}, l.Pairwise (ahd es) → x ∉ l → (insA es x l).Pairwise (ahd es)
  | [], _, _ => by simp [insA]
  | y :: l, h, hx => by
    rw [List.pairwise_cons] at h
    unfold insA
    split
    · rename_i q
      have q' := ahB_iff.1 q
      rw [List.pairwise_cons]
      refine ⟨fun z hz => ?_, List.pairwise_cons.2 h⟩
      rcases List.mem_cons.1 hz with e | e
      · subst e; exact q'
      · exact ahd_trans q' (h.1 z e)
    · rename_i q
      have hne : x ≠ y := fun e => hx (by simp [e])
      have q' : ahd es y x := by
        rcases ahd_tri (es := es) hne with r | r
        · exact absurd (ahB_iff.2 r) q
        · exact r
      rw [List.pairwise_cons]
      refine ⟨fun z hz => ?_, pw_insA h.2 (fun hz => hx (List.mem_cons_of_mem _ hz))⟩
      rcases mem_insA.1 hz with e | e
      · subst e; exact q'
      · exact h.1 z e
/-- The order of events. -/
def ordOf (es : List Ev) : List Nat := (hapd es es.length).foldr (insA es) []
theorem ordOf_fold {es : List Ev} : ∀ {l : List Nat}, l.Nodup → (∀ z, z ∈ l.foldr (insA es) [] ↔ z ∈ l) ∧ (l.foldr (insA es) []).Pairwise (ahd es)
  | [], _ => ⟨by simp, by simp⟩
  | x :: l, h => by
    rw [List.nodup_cons] at h
    obtain ⟨h1, h2⟩ := ordOf_fold (es := es) h.2
    refine ⟨fun z => ?_, pw_insA h2 (fun hx => h.1 ((h1 x).1 hx))⟩
    rw [List.foldr_cons, mem_insA, h1, List.mem_cons]
theorem ordOf_is (es : List Ev) : IsOrd es (ordOf es) := by
  obtain ⟨h1, h2⟩ := ordOf_fold (es := es) (l := hapd es es.length) ((hapd_asc es es.length).imp (fun {a b} h => Nat.ne_of_lt h))
  exact ⟨fun i => (h1 i).trans hapd_mem, h2⟩
theorem IsOrd.eq {es : List Ev} {o : List Nat} (h : IsOrd es o) : o = ordOf es := h.uniq (ordOf_is es)
theorem ord_lt {es : List Ev} {i : Nat} (h : i ∈ ordOf es) : i < es.length := (((ordOf_is es).mem i).1 h).1
theorem ord_hp {es : List Ev} {i : Nat} (h : i ∈ ordOf es) : hpB (evAt es i) = true := (((ordOf_is es).mem i).1 h).2
theorem ord_len (es : List Ev) : (ordOf es).length ≤ es.length := (ordOf_is es).len
theorem getD_mem {l : List Nat} {k : Nat} (h : k < l.length) : l.getD k 0 ∈ l := by simp [h]
/-- At is not above t. -/
def leB (es : List Ev) (t : Int) (i : Nat) : Bool := decide ((evAt es i).at_ ≤ t)
/-- The map at t. -/
def mpA (es : List Ev) (t : Int) : List Pr := mpF es ((ordOf es).filter (leB es t))
theorem ord_mono {es : List Ev} {a b : Nat} (hab : a < b) (hb : b < (ordOf es).length) : ahd es ((ordOf es).getD a 0) ((ordOf es).getD b 0) := by
  have := (List.pairwise_iff_getElem.1 (ordOf_is es).pw) a b (by omega) hb hab
  rw [show (ordOf es).getD a 0 = (ordOf es)[a] by simp [show a < (ordOf es).length by omega], show (ordOf es).getD b 0 = (ordOf es)[b] by simp [hb]]
  exact this
theorem filter_at {es : List Ev} {t : Int} {k : Nat} (h1 : ∀ j, j < k → leB es t ((ordOf es).getD j 0) = true) (h2 : k = (ordOf es).length ∨ (k < (ordOf es).length ∧ leB es t ((ordOf es).getD k 0) = false)) : (ordOf es).filter (leB es t) = (ordOf es).take k := by
  have hk : k ≤ (ordOf es).length := by omega
  conv => lhs; rw [← List.take_append_drop k (ordOf es), List.filter_append]
  have a1 : ((ordOf es).take k).filter (leB es t) = (ordOf es).take k := by
    rw [List.filter_eq_self]
    intro x hx
    obtain ⟨j, hj, e⟩ := List.mem_iff_getElem.1 hx
    rw [List.length_take] at hj
    have := h1 j (by omega)
    rw [show (ordOf es).getD j 0 = x by rw [← e]; simp [show j < (ordOf es).length by omega]] at this
    exact this
  have a2 : ((ordOf es).drop k).filter (leB es t) = [] := by
    rw [List.filter_eq_nil_iff]
    intro x hx q
    obtain ⟨j, hj, e⟩ := List.mem_iff_getElem.1 hx
    simp at hj
    rcases h2 with h2 | ⟨h2, h3⟩
    · omega
    · have e2 : (ordOf es).getD (k + j) 0 = x := by rw [← e]; simp [show k + j < (ordOf es).length by omega]
      unfold leB at h3 q
      simp at h3 q
      by_cases hj0 : j = 0
      · subst hj0; rw [Nat.add_zero] at e2; rw [List.getD_eq_getElem?_getD] at e2; rw [e2] at h3; omega
      · have := ord_mono (es := es) (a := k) (b := k + j) (by omega) (by omega)
        rw [e2] at this
        unfold ahd at this
        rw [List.getD_eq_getElem?_getD] at this
        omega
  rw [a1, a2, List.append_nil]
theorem mpF_take {es : List Ev} {k : Nat} (hk : k < (ordOf es).length) : mpF es ((ordOf es).take (k + 1)) = doM (mpF es ((ordOf es).take k)) (evAt es ((ordOf es).getD k 0)).op := by
  rw [take_next hk 0, mpF_snoc]
theorem take_lt {es : List Ev} {k : Nat} : ∀ i ∈ (ordOf es).take k, i < es.length := fun _ hi => ord_lt (List.mem_of_mem_take hi)
theorem filter_lt {es : List Ev} {p : Nat → Bool} : ∀ i ∈ (ordOf es).filter p, i < es.length := fun _ hi => ord_lt (List.mem_filter.1 hi).1
end Go.Proofs.Ytlmkcakmeldfeaa.Q
