/-
  Times: at which times a map need be asked for; the mathematics.
-/
import Derived.Test.YtlmkcakmeldfeaaHTurnM
namespace Go.Proofs.Ytlmkcakmeldfeaa.Q
open Go.RowKit
/-- The times that the document asks at. -/
def tmB (e x : Ev) : Bool := hpB x && (decide (e.bg < x.at_) && decide (x.at_ ≤ e.en))
def tmL (es : List Ev) (e : Ev) : List Int := e.bg :: (es.filter (tmB e)).map Ev.at_
theorem last_time (f : Nat → Int) (bg t : Int) (h : bg ≤ t) : ∀ l : List Nat, ∃ u, (u = bg ∨ ∃ i ∈ l, f i = u ∧ bg < f i) ∧ bg ≤ u ∧ u ≤ t ∧ ∀ i ∈ l, f i ≤ t → f i ≤ u
  | [] => ⟨bg, Or.inl rfl, Int.le_refl _, h, by simp⟩
  | i :: l => by
    obtain ⟨u, h1, h2, h3, h4⟩ := last_time f bg t h l
    by_cases q : f i ≤ t ∧ u < f i
    · refine ⟨f i, Or.inr ⟨i, by simp, rfl, by omega⟩, by omega, q.1, fun j hj hjt => ?_⟩
      rcases List.mem_cons.1 hj with e | e
      · subst e; omega
      · have := h4 j e hjt; omega
    · refine ⟨u, ?_, h2, h3, fun j hj hjt => ?_⟩
      · rcases h1 with e | ⟨j, hj, e⟩
        · exact Or.inl e
        · exact Or.inr ⟨j, List.mem_cons_of_mem _ hj, e⟩
      · rcases List.mem_cons.1 hj with e | e
        · subst e; omega
        · exact h4 j e hjt
theorem tm_in {es : List Ev} {e : Ev} (h : e.bg ≤ e.en) {u : Int} (hu : u ∈ tmL es e) : e.bg ≤ u ∧ u ≤ e.en := by
  rcases List.mem_cons.1 hu with q | q
  · subst q; exact ⟨Int.le_refl _, h⟩
  · obtain ⟨x, hx, rfl⟩ := List.mem_map.1 q
    have := (List.mem_filter.1 hx).2
    unfold tmB at this
    simp only [Bool.and_eq_true, decide_eq_true_eq] at this
    omega
theorem tm_all {es : List Ev} {e : Ev} {t : Int} (h1 : e.bg ≤ t) (h2 : t ≤ e.en) : ∃ u ∈ tmL es e, mpA es u = mpA es t := by
  obtain ⟨u, a1, a2, a3, a4⟩ := last_time (fun i => (evAt es i).at_) e.bg t h1 (ordOf es)
  refine ⟨u, ?_, ?_⟩
  · rcases a1 with q | ⟨i, hi, q1, q2⟩
    · rw [q]; exact List.mem_cons_self
    · refine List.mem_cons_of_mem _ (List.mem_map.2 ⟨evAt es i, List.mem_filter.2 ⟨evAt_mem (ord_lt hi), ?_⟩, q1⟩)
      have hp : hpB (evAt es i) = true := ord_hp hi
      have q1' : (evAt es i).at_ = u := q1
      have q2' : e.bg < (evAt es i).at_ := q2
      unfold tmB
      simp only [hp, Bool.and_eq_true, decide_eq_true_eq, true_and]
      omega
  · unfold mpA
    congr 1
    refine List.filter_congr (fun i hi => ?_)
    have := a4 i hi
    have e1 : ∀ s, leB es s i = decide ((evAt es i).at_ ≤ s) := fun _ => rfl
    rw [e1, e1]
    by_cases q : (evAt es i).at_ ≤ t
    · rw [decide_eq_true q, decide_eq_true (this q)]
    · rw [decide_eq_false q, decide_eq_false (by omega)]
theorem some_tm {es : List Ev} {e : Ev} (h : e.bg ≤ e.en) (k : Int) : (dk es e k).1 = (tmL es e).any (fun t => hasT es t k) := by
  rw [Bool.eq_iff_iff, dk_some h, List.any_eq_true]
  constructor
  · rintro ⟨t, h1, h2, h3⟩
    obtain ⟨u, hu, e2⟩ := tm_all (es := es) h1 h2
    exact ⟨u, hu, by unfold hasT at h3 ⊢; rw [e2]; exact h3⟩
  · rintro ⟨u, hu, h3⟩
    exact ⟨u, (tm_in h hu).1, (tm_in h hu).2, h3⟩
theorem each_tm {es : List Ev} {e : Ev} (h : e.bg ≤ e.en) (k : Int) : (dk es e k).2 = (tmL es e).all (fun t => hasT es t k) := by
  rw [Bool.eq_iff_iff, dk_each h, List.all_eq_true]
  constructor
  · intro a u hu
    exact a u (tm_in h hu).1 (tm_in h hu).2
  · intro a t h1 h2
    obtain ⟨u, hu, e2⟩ := tm_all (es := es) h1 h2
    have := a u hu
    unfold hasT at this ⊢; rw [← e2]; exact this
/-- What is left out is sought among the keys of the map at the start. -/
theorem rgE_yes1 {es : List Ev} {e : Ev} (h1 : ¬ e.en < e.bg) (h2 : kfB e = true) (h3 : ∀ j, j < e.ks.length → (dk es e (e.ks.getD j 0)).1 = true) (h4 : ∀ p ∈ mpA es e.bg, (dk es e p.k).2 = true → loB e p.k = false) : rgE es e = true := by
  refine rgE_yes h1 h2 h3 (fun i _ hd => ?_)
  have hb := (dk_each (by omega) _).1 hd e.bg (Int.le_refl _) (by omega)
  obtain ⟨p, hp, e1⟩ := gtH_mem.1 hb
  rw [← e1] at hd ⊢
  exact h4 p hp hd
/-- The document's 'beyond'. -/
def byB (e : Ev) (k : Int) : Bool := decide ((e.ks.length : Int) = max e.op.n 0) && (decide (max e.op.n 0 = 0) || decide (e.ks.getD (e.ks.length - 1) 0 < k))
theorem lo_is {e : Ev} {k : Int} (hk : kfB e = true) (h1 : e.op.k ≤ k) (h2 : k ≤ e.op.v) (h3 : k ∉ e.ks) : loB e k = !(byB e k) := by
  have hl : (e.ks.length : Int) ≤ max e.op.n 0 := by
    unfold kfB at hk
    rw [Bool.and_eq_true] at hk
    exact of_decide_eq_true hk.1
  have hne : 0 < e.ks.length → e.ks.getD (e.ks.length - 1) 0 ≠ k := fun h q => h3 (by
    rw [← q, List.getD_eq_getElem?_getD, List.getElem?_eq_getElem (by omega)]; exact List.getElem_mem _)
  unfold loB byB
  rw [decide_eq_false h3, decide_eq_false (show ¬ k < e.op.k by omega), decide_eq_false (show ¬ e.op.v < k by omega)]
  generalize e.ks.getD (e.ks.length - 1) 0 = la at hne
  by_cases q1 : e.op.n < 1
  · rw [decide_eq_true q1, decide_eq_true (show (e.ks.length : Int) = max e.op.n 0 by omega), decide_eq_true (show max e.op.n 0 = 0 by omega)]; rfl
  · rw [decide_eq_false q1, decide_eq_false (show ¬ max e.op.n 0 = 0 by omega)]
    by_cases q2 : (e.ks.length : Int) < e.op.n
    · rw [decide_eq_true q2, decide_eq_false (show ¬ (e.ks.length : Int) = max e.op.n 0 by omega)]; rfl
    · rw [decide_eq_false q2, decide_eq_true (show (e.ks.length : Int) = max e.op.n 0 by omega)]
      have := hne (by omega)
      by_cases q3 : k < la
      · rw [decide_eq_true q3, decide_eq_false (show ¬ la < k by omega)]; rfl
      · rw [decide_eq_false q3, decide_eq_true (show la < k by omega)]; rfl
end Go.Proofs.Ytlmkcakmeldfeaa.Q
