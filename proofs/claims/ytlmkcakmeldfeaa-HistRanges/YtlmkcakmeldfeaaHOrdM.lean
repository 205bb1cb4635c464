/-
  In which order events happened: the mathematics. Places, by rising At, and of one At by rising place.
-/
import Derived.Test.YtlmkcakmeldfeaaHMeth
namespace Go.Proofs.Ytlmkcakmeldfeaa.Q
open Go.RowKit
def evAt (es : List Ev) (i : Nat) : Ev := es.getD i evZ
/-- Ahead of one another. -/
def ahd (es : List Ev) (i j : Nat) : Prop := (evAt es i).at_ < (evAt es j).at_ ∨ ((evAt es i).at_ = (evAt es j).at_ ∧ i < j)
structure IsOrd (es : List Ev) (o : List Nat) : Prop where
  mem : ∀ i, i ∈ o ↔ i < es.length ∧ hpB (evAt es i) = true
  pw : o.Pairwise (ahd es)
theorem ahd_irr {es : List Ev} {i : Nat} (h : ahd es i i) : False := by unfold ahd at h; omega
theorem ahd_asy {es : List Ev} {i j : Nat} (h : ahd es i j) (k : ahd es j i) : False := by unfold ahd at h k; omega
theorem ahd_tri {es : List Ev} {i j : Nat} (h : i ≠ j) : ahd es i j ∨ ahd es j i := by unfold ahd; omega
theorem ahd_trans {es : List Ev} {i j k : Nat} (h : ahd es i j) (h2 : ahd es j k) : ahd es i k := by unfold ahd at *; omega
theorem ord_uniq {es : List Ev} : ∀ {a b : List Nat}, a.Pairwise (ahd es) → b.Pairwise (ahd es) → (∀ x, x ∈ a ↔ x ∈ b) → a = b
  | [], [], _, _, _ => rfl
  | [], y :: b, _, _, h => by have := (h y).2 (by simp); cases this
  | x :: a, [], _, _, h => by have := (h x).1 (by simp); cases this
  | x :: a, y :: b, ha, hb, h => by
    rw [List.pairwise_cons] at ha hb
    have e : x = y := by
      have h1 := (h x).1 (by simp)
      have h2 := (h y).2 (by simp)
      rcases List.mem_cons.1 h1 with e | e
      · exact e
      · rcases List.mem_cons.1 h2 with e2 | e2
        · exact e2.symm
        · exact (ahd_asy (hb.1 x e) (ha.1 y e2)).elim
    subst e
    congr 1
    refine ord_uniq ha.2 hb.2 (fun z => ⟨fun hz => ?_, fun hz => ?_⟩)
    · rcases List.mem_cons.1 ((h z).1 (List.mem_cons_of_mem _ hz)) with e | e
      · subst e; exact (ahd_irr (ha.1 z hz)).elim
      · exact e
    · rcases List.mem_cons.1 ((h z).2 (List.mem_cons_of_mem _ hz)) with e | e
      · subst e; exact (ahd_irr (hb.1 z hz)).elim
      · exact e
theorem IsOrd.uniq {es : List Ev} {a b : List Nat} (ha : IsOrd es a) (hb : IsOrd es b) : a = b := ord_uniq ha.pw hb.pw (fun x => (ha.mem x).trans (hb.mem x).symm)
theorem IsOrd.nodup {es : List Ev} {o : List Nat} (h : IsOrd es o) : o.Nodup := h.pw.imp (fun {a b} hab e => by subst e; exact ahd_irr hab)
theorem nodup_le : ∀ {n : Nat} {o : List Nat}, o.Nodup → (∀ i ∈ o, i < n) → o.length ≤ n
  | 0, o, _, hl => by
    cases o with
    | nil => simp
    | cons a l => have := hl a (by simp); omega
  | n + 1, o, h, hl => by
    by_cases hn : n ∈ o
    · have := nodup_le (n := n) (o := o.erase n) (h.erase n) (fun i hi => by
        have h1 := (List.Nodup.mem_erase_iff h).1 hi
        have := hl i h1.2; omega)
      rw [List.length_erase_of_mem hn] at this; omega
    · have := nodup_le (n := n) (o := o) h (fun i hi => by
        have h1 := hl i hi
        have : i ≠ n := fun e => hn (e ▸ hi)
        omega)
      omega
theorem IsOrd.len {es : List Ev} {o : List Nat} (h : IsOrd es o) : o.length ≤ es.length := nodup_le h.nodup (fun i hi => ((h.mem i).1 hi).1)
/-- The places of what happened among the first k. -/
def hapd (es : List Ev) (k : Nat) : List Nat := (List.range k).filter (fun i => hpB (evAt es i))
theorem hapd_succ (es : List Ev) (k : Nat) : hapd es (k + 1) = if hpB (evAt es k) then hapd es k ++ [k] else hapd es k := by
  unfold hapd
  rw [List.range_succ, List.filter_append]
  by_cases h : hpB (evAt es k) = true
  · rw [if_pos h]; simp [h]
  · rw [if_neg h]; simp [h]
theorem hapd_len (es : List Ev) (k : Nat) : (hapd es k).length ≤ k := by
  unfold hapd; have := List.length_filter_le (fun i => hpB (evAt es i)) (List.range k); simpa using this
theorem hapd_mem {es : List Ev} {k i : Nat} : i ∈ hapd es k ↔ i < k ∧ hpB (evAt es i) = true := by simp [hapd]
theorem hapd_asc (es : List Ev) (k : Nat) : (hapd es k).Pairwise (· < ·) := by
  unfold hapd; exact List.Pairwise.filter _ (List.pairwise_lt_range)
/-- A place as the sort sees it. -/
def kp_ (es : List Ev) (i : Nat) : Pr := ⟨(evAt es i).at_, i⟩
def kf_ (es : List Ev) (o : List Nat) : Fn := fun t => kp_ es (o.getD t 0)
def okE (es : List Ev) (p : Pr) : Prop := ∃ i : Nat, i < es.length ∧ p = kp_ es i
theorem seg_kf (es : List Ev) (o : List Nat) : seg (kf_ es o) 0 o.length = o.map (kp_ es) := by
  apply List.ext_getElem
  · simp [seg]
  · intro i h1 h2
    simp [seg] at h1
    simp [seg, kf_, h1]
/-- Behind the sort. -/
theorem ord_of_sort {es : List Ev} {f' : Fn} {m : Nat} (hm : m = (hapd es es.length).length) (P : StP (kf_ es (hapd es es.length)) f' 0 m) (S : Sor f' 0 m) : ∃ o, IsOrd es o ∧ o.length = m ∧ ∀ t, t < m → f' t = kp_ es (o.getD t 0) := by
  have hs : seg (kf_ es (hapd es es.length)) 0 m = (hapd es es.length).map (kp_ es) := by rw [hm]; exact seg_kf _ _
  have each : ∀ t, t < m → ∃ i : Nat, i ∈ hapd es es.length ∧ f' t = kp_ es i := fun t ht => by
    obtain ⟨j, _, hj, e⟩ := P.mem (i := t) (Nat.zero_le _) ht
    have hj' : j < (hapd es es.length).length := by omega
    exact ⟨(hapd es es.length)[j], by simp, by rw [e]; simp [kf_, hj']⟩
  have idx : ∀ t, t < m → f' t = kp_ es ((f' t).v.toNat) := fun t ht => by
    obtain ⟨i, _, e⟩ := each t ht
    rw [e]; simp [kp_]
  refine ⟨(List.range m).map (fun t => (f' t).v.toNat), ⟨fun i => ?_, ?_⟩, by simp, fun t ht => by have := idx t ht; simpa [List.getD, ht] using this⟩
  · have fil := P.fil (evAt es i).at_
    rw [hs] at fil
    constructor
    · intro hi
      obtain ⟨t, ht, e⟩ := List.mem_map.1 hi
      have ht' : t < m := by simpa using ht
      obtain ⟨j, hj, e2⟩ := each t ht'
      have : j = i := by rw [← e, e2]; simp [kp_]
      subst this
      exact hapd_mem.1 hj
    · intro hi
      have h1 : kp_ es i ∈ ((hapd es es.length).map (kp_ es)).filter (fun p => p.k == (evAt es i).at_) := List.mem_filter.2 ⟨List.mem_map.2 ⟨i, hapd_mem.2 hi, rfl⟩, by simp [kp_]⟩
      rw [← fil] at h1
      obtain ⟨t, _, ht, e⟩ := mem_seg.1 (List.mem_filter.1 h1).1
      exact List.mem_map.2 ⟨t, by simpa using ht, by rw [e]; simp [kp_]⟩
  · rw [List.pairwise_iff_getElem]
    intro a b ha hb hab
    have ha' : a < m := by simpa using ha
    have hb' : b < m := by simpa using hb
    simp only [List.getElem_map, List.getElem_range]
    have hk := S a b (Nat.zero_le _) hab hb'
    have ea := idx a ha'
    have eb := idx b hb'
    have ka : (f' a).k = (evAt es ((f' a).v.toNat)).at_ := by conv => lhs; rw [ea]
                                                              rfl
    have kb : (f' b).k = (evAt es ((f' b).v.toNat)).at_ := by conv => lhs; rw [eb]
                                                              rfl
    unfold ahd
    rw [← ka, ← kb]
    by_cases q : (f' a).k = (f' b).k
    · right
      refine ⟨q, ?_⟩
      have fil := P.fil (f' a).k
      rw [hs] at fil
      have pw : (((hapd es es.length).map (kp_ es)).filter (fun p => p.k == (f' a).k)).Pairwise (fun x y => x.v < y.v) := by
        apply List.Pairwise.filter
        rw [List.pairwise_map]
        exact (hapd_asc es es.length).imp (fun {x y} hxy => by simp [kp_]; omega)
      rw [← fil, List.pairwise_filter, List.pairwise_iff_getElem] at pw
      have l1 : (seg f' 0 m).length = m := by rw [seg_len]; omega
      have := pw a b (by omega) (by omega) hab (by simp [seg]) (by simp [seg, q])
      simp [seg] at this
      have va : (f' a).v = (((f' a).v.toNat : Nat) : Int) := by conv => lhs; rw [ea]
                                                                rfl
      have vb : (f' b).v = (((f' b).v.toNat : Nat) : Int) := by conv => lhs; rw [eb]
                                                                rfl
      omega
    · left; omega
end Go.Proofs.Ytlmkcakmeldfeaa.Q
