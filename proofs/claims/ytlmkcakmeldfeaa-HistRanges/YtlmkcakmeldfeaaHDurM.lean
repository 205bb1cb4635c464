/-
  When a key is in the map: changes, and maps at times.
-/
import Derived.Test.YtlmkcakmeldfeaaHRanges
namespace Go.Proofs.Ytlmkcakmeldfeaa.Q
open Go.RowKit
/-- By rising times. -/
def Rise (l : List Chg) : Prop := l.Pairwise (fun a b => a.t ≤ b.t)
/-- What holds at t, h ahead of all. -/
def valF : List Chg → Bool → Int → Bool
  | [], h, _ => h
  | c :: l, h, t => if c.t ≤ t then valF l c.h t else h
theorem valF_le {c : Chg} {l : List Chg} {b : Bool} {t : Int} (h : c.t ≤ t) : valF (c :: l) b t = valF l c.h t := by simp [valF, h]
theorem valF_gt {c : Chg} {l : List Chg} {b : Bool} {t : Int} (h : ¬ c.t ≤ t) : valF (c :: l) b t = b := by simp [valF, h]
theorem drF_is {en : Int} : ∀ (l : List Chg) (mo : Int) (h s e : Bool), Rise l → mo ≤ en →
    (((drF en l mo h s e).1 = true ↔ s = true ∨ ∃ t, mo ≤ t ∧ t ≤ en ∧ valF l h t = true) ∧ ((drF en l mo h s e).2 = true ↔ e = true ∧ ∀ t, mo ≤ t → t ≤ en → valF l h t = true))
  | [], mo, h, s, e, _, hm => by
    unfold drF
    simp only [valF, Bool.or_eq_true, Bool.and_eq_true]
    refine ⟨⟨fun q => q.imp id (fun q => ⟨mo, Int.le_refl _, hm, q⟩), fun q => q.imp id (fun ⟨_, _, _, q⟩ => q)⟩, ⟨fun q => ⟨q.1, fun _ _ _ => q.2⟩, fun q => ⟨q.1, q.2 mo (Int.le_refl _) hm⟩⟩⟩
  | c :: l, mo, h, s, e, hr, hm => by
    have hr' := hr
    rw [Rise, List.pairwise_cons] at hr
    unfold drF
    by_cases q1 : en < c.t
    · rw [if_pos q1]
      have hv : ∀ t, t ≤ en → valF (c :: l) h t = h := fun t ht => valF_gt (by omega)
      simp only [Bool.or_eq_true, Bool.and_eq_true]
      refine ⟨⟨fun q => q.imp id (fun q => ⟨mo, Int.le_refl _, hm, by rw [hv mo hm]; exact q⟩), fun q => q.imp id (fun ⟨t, _, h2, q⟩ => by rw [hv t h2] at q; exact q)⟩, ⟨fun q => ⟨q.1, fun t _ h2 => by rw [hv t h2]; exact q.2⟩, fun q => ⟨q.1, by have := q.2 mo (Int.le_refl _) hm; rw [hv mo hm] at this; exact this⟩⟩⟩
    · rw [if_neg q1]
      by_cases q2 : mo < c.t
      · rw [if_pos q2]
        obtain ⟨i1, i2⟩ := drF_is (en := en) l c.t c.h (s || h) (e && h) hr.2 (by omega)
        have v1 : ∀ t, t < c.t → valF (c :: l) h t = h := fun t ht => valF_gt (by omega)
        have v2 : ∀ t, c.t ≤ t → valF (c :: l) h t = valF l c.h t := fun t ht => valF_le ht
        refine ⟨i1.trans ?_, i2.trans ?_⟩
        · rw [Bool.or_eq_true]
          constructor
          · rintro ((q | q) | ⟨t, h1, h2, q⟩)
            · exact Or.inl q
            · exact Or.inr ⟨mo, Int.le_refl _, hm, by rw [v1 mo q2]; exact q⟩
            · exact Or.inr ⟨t, by omega, h2, by rw [v2 t h1]; exact q⟩
          · rintro (q | ⟨t, h1, h2, q⟩)
            · exact Or.inl (Or.inl q)
            · by_cases q3 : t < c.t
              · rw [v1 t q3] at q; exact Or.inl (Or.inr q)
              · rw [v2 t (by omega)] at q; exact Or.inr ⟨t, by omega, h2, q⟩
        · rw [Bool.and_eq_true]
          constructor
          · rintro ⟨⟨q, q'⟩, q3⟩
            refine ⟨q, fun t h1 h2 => ?_⟩
            by_cases q4 : t < c.t
            · rw [v1 t q4]; exact q'
            · rw [v2 t (by omega)]; exact q3 t (by omega) h2
          · rintro ⟨q, q3⟩
            refine ⟨⟨q, by have := q3 mo (Int.le_refl _) hm; rw [v1 mo q2] at this; exact this⟩, fun t h1 h2 => ?_⟩
            have := q3 t (by omega) h2
            rw [v2 t h1] at this; exact this
      · rw [if_neg q2]
        obtain ⟨i1, i2⟩ := drF_is (en := en) l mo c.h s e hr.2 hm
        have v2 : ∀ t, mo ≤ t → valF (c :: l) h t = valF l c.h t := fun t ht => valF_le (by omega)
        refine ⟨i1.trans ?_, i2.trans ?_⟩
        · constructor
          · rintro (q | ⟨t, h1, h2, q⟩)
            · exact Or.inl q
            · exact Or.inr ⟨t, h1, h2, by rw [v2 t h1]; exact q⟩
          · rintro (q | ⟨t, h1, h2, q⟩)
            · exact Or.inl q
            · rw [v2 t h1] at q; exact Or.inr ⟨t, h1, h2, q⟩
        · constructor
          · rintro ⟨q, q3⟩
            exact ⟨q, fun t h1 h2 => by rw [v2 t h1]; exact q3 t h1 h2⟩
          · rintro ⟨q, q3⟩
            exact ⟨q, fun t h1 h2 => by have := q3 t h1 h2; rwa [v2 t h1] at this⟩
/-- Has the map a key at t? -/
def hasT (es : List Ev) (t k : Int) : Bool := gtH (mpA es t) k
/-- By rising At. -/
def AtR (es : List Ev) (l : List Nat) : Prop := l.Pairwise (fun i j => (evAt es i).at_ ≤ (evAt es j).at_)
theorem gtH_do (m : List Pr) (o : OpQ) (k : Int) : gtH (doM m o) k = if o.d = 2 ∧ o.k = k then true else if o.d = 3 ∧ o.k = k then false else gtH m k := by
  unfold gtH doM
  by_cases h2 : o.d = 2
  · by_cases e : o.k = k
    · simp [h2, e, fd_wi]
    · simp [h2, e, fd_wi]
  · by_cases h3 : o.d = 3
    · by_cases e : o.k = k
      · simp [h3, e, fd_wo]
      · simp [h3, e, fd_wo]
    · simp [h2, h3]
theorem val_map {es : List Ev} {t k : Int} : ∀ (l : List Nat) (m : List Pr), AtR es l → gtH ((l.filter (leB es t)).foldl (fun m i => doM m (evAt es i).op) m) k = valF (lfF es l k) (gtH m k) t
  | [], m, _ => rfl
  | i :: l, m, h => by
    rw [AtR, List.pairwise_cons] at h
    by_cases q : (evAt es i).at_ ≤ t
    · rw [List.filter_cons_of_pos (by unfold leB; simpa using q), List.foldl_cons, val_map l _ h.2, gtH_do]
      unfold lfF
      by_cases p : pdB es k i = true
      · rw [List.filter_cons_of_pos p, List.map_cons]
        rw [valF_le (c := ⟨(evAt es i).at_, (evAt es i).op.d == 2⟩) q]
        unfold pdB at p
        simp at p
        obtain ⟨p1, p2⟩ := p
        rcases p1 with p1 | p1
        · rw [if_pos ⟨p1, p2⟩]; simp [p1]
        · rw [if_neg (by omega), if_pos ⟨p1, p2⟩]; simp [p1]
      · rw [List.filter_cons_of_neg p]
        unfold pdB at p
        simp at p
        rw [if_neg (fun h => p (Or.inl h.1) h.2), if_neg (fun h => p (Or.inr h.1) h.2)]
    · have hf : (i :: l).filter (leB es t) = [] := by
        rw [List.filter_eq_nil_iff]
        intro j hj
        rcases List.mem_cons.1 hj with e | e
        · subst e; unfold leB; simpa using q
        · have := h.1 j e; unfold leB; simp; omega
      rw [hf]
      have hv : ∀ (l' : List Chg), (∀ c ∈ l', t < c.t) → valF l' (gtH m k) t = gtH m k := fun l' hl => by
        cases l' with
        | nil => rfl
        | cons c r => exact valF_gt (by have := hl c (by simp); omega)
      rw [hv]
      · rfl
      · intro c hc
        unfold lfF at hc
        obtain ⟨j, hj, rfl⟩ := List.mem_map.1 hc
        rcases List.mem_cons.1 (List.mem_filter.1 hj).1 with e | e
        · subst e; simp; omega
        · have := h.1 j e; simp; omega
theorem ord_atR (es : List Ev) : AtR es (ordOf es) := (ordOf_is es).pw.imp (fun {a b} h => by unfold ahd at h; omega)
theorem life_rise (es : List Ev) (k : Int) : Rise (lfF es (ordOf es) k) := by
  unfold lfF Rise
  rw [List.pairwise_map]
  exact (ord_atR es).filter _
theorem has_val (es : List Ev) (t k : Int) : hasT es t k = valF (lfF es (ordOf es) k) false t := by
  unfold hasT mpA mpF
  rw [val_map (ordOf es) [] (ord_atR es)]; rfl
theorem dk_some {es : List Ev} {e : Ev} (h : e.bg ≤ e.en) (k : Int) : (dk es e k).1 = true ↔ ∃ t, e.bg ≤ t ∧ t ≤ e.en ∧ hasT es t k = true := by
  unfold dk dur
  rw [(drF_is _ e.bg false false true (life_rise es k) h).1]
  simp [has_val]
theorem dk_each {es : List Ev} {e : Ev} (h : e.bg ≤ e.en) (k : Int) : (dk es e k).2 = true ↔ ∀ t, e.bg ≤ t → t ≤ e.en → hasT es t k = true := by
  unfold dk dur
  rw [(drF_is _ e.bg false false true (life_rise es k) h).2]
  simp [has_val]
end Go.Proofs.Ytlmkcakmeldfeaa.Q
