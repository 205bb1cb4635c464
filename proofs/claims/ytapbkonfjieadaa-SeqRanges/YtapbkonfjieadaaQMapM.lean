/-
  The mathematics of a map that is a row of its pairs, by rising keys.
-/
import Derived.Test.YtapbkonfjieadaaQSortM
namespace Go.Proofs.Ytapbkonfjieadaa.Q
/-- Keys rise. -/
def Str (ps : List Pr) : Prop := ps.Pairwise (fun a b => a.k < b.k)
def blw (ps : List Pr) (k : Int) : List Pr := ps.filter (fun q => decide (q.k < k))
def abv (ps : List Pr) (k : Int) : List Pr := ps.filter (fun q => decide (k < q.k))
def nbl (ps : List Pr) (k : Int) : List Pr := ps.filter (fun q => decide (k ≤ q.k))
/-- The map with a pair. -/
def wi (ps : List Pr) (p : Pr) : List Pr := blw ps p.k ++ p :: abv ps p.k
/-- The map without a key. -/
def wo (ps : List Pr) (k : Int) : List Pr := blw ps k ++ abv ps k
/-- The pair of a key. -/
def fd (ps : List Pr) (k : Int) : Option Pr := ps.find? (fun q => q.k == k)
theorem mem_blw {ps : List Pr} {k : Int} {q : Pr} : q ∈ blw ps k ↔ q ∈ ps ∧ q.k < k := by simp [blw]
theorem mem_abv {ps : List Pr} {k : Int} {q : Pr} : q ∈ abv ps k ↔ q ∈ ps ∧ k < q.k := by simp [abv]
theorem mem_nbl {ps : List Pr} {k : Int} {q : Pr} : q ∈ nbl ps k ↔ q ∈ ps ∧ k ≤ q.k := by simp [nbl]
theorem Str.filter {ps : List Pr} (h : Str ps) (p : Pr → Bool) : Str (ps.filter p) := List.Pairwise.filter p h
theorem Str.wi {ps : List Pr} (h : Str ps) (p : Pr) : Str (wi ps p) := by
  unfold Q.wi Str
  rw [List.pairwise_append]
  refine ⟨h.filter _, ?_, ?_⟩
  · rw [List.pairwise_cons]; exact ⟨fun q hq => (mem_abv.1 hq).2, h.filter _⟩
  · intro x hx y hy
    have h1 := (mem_blw.1 hx).2
    rcases List.mem_cons.1 hy with rfl | hy
    · exact h1
    · have := (mem_abv.1 hy).2; omega
theorem Str.wo {ps : List Pr} (h : Str ps) (k : Int) : Str (wo ps k) := by
  unfold Q.wo Str
  rw [List.pairwise_append]
  refine ⟨h.filter _, h.filter _, fun x hx y hy => ?_⟩
  have h1 := (mem_blw.1 hx).2
  have h2 := (mem_abv.1 hy).2
  omega
theorem find_filter_same {ps : List Pr} {f : Pr → Bool} {k : Int} (h : ∀ q : Pr, q.k = k → f q = true) : (ps.filter f).find? (fun q => q.k == k) = ps.find? (fun q => q.k == k) := by
  induction ps with
  | nil => rfl
  | cons a l ih =>
    by_cases ha : a.k = k
    · rw [List.filter_cons_of_pos (h a ha)]; simp [ha]
    · by_cases hf : f a = true
      · rw [List.filter_cons_of_pos hf]; simp [ha, ih]
      · rw [List.filter_cons_of_neg hf]; simp [ha, ih]
theorem find_filter_none {ps : List Pr} {f : Pr → Bool} {k : Int} (h : ∀ q : Pr, q.k = k → f q = false) : (ps.filter f).find? (fun q => q.k == k) = none := by
  rw [List.find?_eq_none]
  intro x hx hk
  rw [beq_iff_eq] at hk
  have := (List.mem_filter.1 hx).2
  rw [h x hk] at this; cases this
theorem fd_wi (ps : List Pr) (p : Pr) (k : Int) : fd (wi ps p) k = if p.k = k then some p else fd ps k := by
  unfold fd wi blw abv
  rw [List.find?_append]
  by_cases h : p.k = k
  · rw [if_pos h, find_filter_none (by intro q hq; simp; omega)]
    simp [h]
  · rw [if_neg h, List.find?_cons_of_neg (by simpa using h)]
    by_cases h2 : k < p.k
    · rw [find_filter_same (by intro q hq; simp; omega), find_filter_none (f := fun q => decide (p.k < q.k)) (by intro q hq; simp; omega)]
      simp
    · rw [find_filter_none (by intro q hq; simp; omega), find_filter_same (f := fun q => decide (p.k < q.k)) (by intro q hq; simp; omega)]
      simp
theorem fd_wo (ps : List Pr) (j k : Int) : fd (wo ps j) k = if j = k then none else fd ps k := by
  unfold fd wo blw abv
  rw [List.find?_append]
  by_cases h : j = k
  · rw [if_pos h, find_filter_none (by intro q hq; simp; omega), find_filter_none (by intro q hq; simp; omega)]; rfl
  · rw [if_neg h]
    by_cases h2 : k < j
    · rw [find_filter_same (by intro q hq; simp; omega), find_filter_none (f := fun q => decide (j < q.k)) (by intro q hq; simp; omega)]
      simp
    · rw [find_filter_none (by intro q hq; simp; omega), find_filter_same (f := fun q => decide (j < q.k)) (by intro q hq; simp; omega)]
      simp
theorem Str.fd_mem {ps : List Pr} (h : Str ps) {x : Pr} (hx : x ∈ ps) : fd ps x.k = some x := by
  induction ps with
  | nil => cases hx
  | cons a l ih =>
    rw [Str, List.pairwise_cons] at h
    unfold fd
    rcases List.mem_cons.1 hx with rfl | hx
    · simp
    · have := h.1 x hx
      rw [List.find?_cons_of_neg (by simp; omega)]
      exact ih h.2 hx
theorem fd_some {ps : List Pr} {k : Int} {x : Pr} (h : fd ps k = some x) : x ∈ ps ∧ x.k = k := by
  unfold fd at h
  exact ⟨List.mem_of_find?_eq_some h, by have := List.find?_some h; simpa using this⟩
theorem Str.ext_mem : ∀ {a b : List Pr}, Str a → Str b → (∀ x, x ∈ a ↔ x ∈ b) → a = b
  | [], [], _, _, _ => rfl
  | [], y :: b, _, _, h => by have := (h y).2 (by simp); cases this
  | x :: a, [], _, _, h => by have := (h x).1 (by simp); cases this
  | x :: a, y :: b, ha, hb, h => by
    rw [Str, List.pairwise_cons] at ha hb
    have e : x = y := by
      have h1 := (h x).1 (by simp)
      have h2 := (h y).2 (by simp)
      rcases List.mem_cons.1 h1 with e | e
      · exact e
      · rcases List.mem_cons.1 h2 with e2 | e2
        · exact e2.symm
        · have := hb.1 x e; have := ha.1 y e2; omega
    subst e
    congr 1
    refine Str.ext_mem ha.2 hb.2 (fun z => ⟨fun hz => ?_, fun hz => ?_⟩)
    · rcases List.mem_cons.1 ((h z).1 (List.mem_cons_of_mem _ hz)) with e | e
      · subst e; have := ha.1 z hz; omega
      · exact e
    · rcases List.mem_cons.1 ((h z).2 (List.mem_cons_of_mem _ hz)) with e | e
      · subst e; have := hb.1 z hz; omega
      · exact e
theorem Str.ext {a b : List Pr} (ha : Str a) (hb : Str b) (h : ∀ k, fd a k = fd b k) : a = b :=
  ha.ext_mem hb (fun x => ⟨fun hx => (fd_some (by rw [← h, ha.fd_mem hx])).1, fun hx => (fd_some (by rw [h, hb.fd_mem hx])).1⟩)
/-- The map with these pairs, one behind the other. -/
def mapOf (l : List Pr) : List Pr := l.foldl wi []
theorem mapOf_snoc (l : List Pr) (p : Pr) : mapOf (l ++ [p]) = wi (mapOf l) p := by simp [mapOf]
theorem foldl_str : ∀ (l a : List Pr), Str a → Str (l.foldl wi a)
  | [], _, h => h
  | p :: l, _, h => foldl_str l _ (h.wi p)
theorem mapOf_str (l : List Pr) : Str (mapOf l) := foldl_str l [] List.Pairwise.nil
theorem foldl_fd : ∀ (l a : List Pr) (k : Int), fd (l.foldl wi a) k = (l.reverse.find? (fun q => q.k == k)).or (fd a k)
  | [], a, k => by simp
  | p :: l, a, k => by
    rw [List.foldl_cons, foldl_fd l _ k, fd_wi, List.reverse_cons, List.find?_append]
    by_cases h : p.k = k
    · simp [h]
    · simp [h]
theorem mapOf_fd (l : List Pr) (k : Int) : fd (mapOf l) k = l.reverse.find? (fun q => q.k == k) := by
  unfold mapOf; rw [foldl_fd]; simp [fd]
/-- Of pairs whose keys rise, these are the map. -/
theorem mapOf_self {ps : List Pr} (h : Str ps) : mapOf ps = ps := by
  refine (mapOf_str ps).ext h (fun k => ?_)
  rw [mapOf_fd]
  cases e : fd ps k with
  | none =>
    unfold fd at e
    rw [List.find?_eq_none] at e ⊢
    intro x hx; exact e x (by simpa using hx)
  | some x =>
    obtain ⟨h1, h2⟩ := fd_some e
    cases e2 : ps.reverse.find? (fun q => q.k == k) with
    | none => rw [List.find?_eq_none] at e2; exact absurd (by simp [h2]) (e2 x (by simpa using h1))
    | some y =>
      have m1 := List.mem_of_find?_eq_some e2
      have m2 := List.find?_some e2
      rw [List.mem_reverse] at m1
      rw [beq_iff_eq] at m2
      have f1 := h.fd_mem m1
      rw [m2, e] at f1
      exact f1.symm
/-- Which of the first places are kept: those that differ from the one ahead. -/
def kpB (f : Fn) (i : Nat) : Bool := i == 0 || !((f i).k == (f (i - 1)).k)
def kp (f : Fn) (t : Nat) : List Pr := ((List.range t).filter (kpB f)).map f
theorem kp_succ (f : Fn) (t : Nat) : kp f (t + 1) = kp f t ++ (if kpB f t then [f t] else []) := by
  unfold kp
  rw [List.range_succ, List.filter_append, List.map_append]
  congr 1
  by_cases h : kpB f t = true
  · rw [List.filter_cons_of_pos h, if_pos h]; rfl
  · rw [List.filter_cons_of_neg h, if_neg h]; rfl
theorem kp_len (f : Fn) (t : Nat) : (kp f t).length ≤ t := by
  unfold kp; rw [List.length_map]; have := List.length_filter_le (kpB f) (List.range t); simpa using this
theorem kp_zero (f : Fn) : kp f 0 = [] := rfl
theorem seg_range (f : Fn) (t : Nat) : seg f 0 t = (List.range t).map f := by unfold seg; rw [List.range_eq_range']; simp
theorem kp_all {f : Fn} {t : Nat} (h : ∀ i, 0 < i → i < t → ¬ (f i).k = (f (i - 1)).k) : kp f t = seg f 0 t := by
  rw [seg_range]; unfold kp
  congr 1
  rw [List.filter_eq_self]
  intro i hi
  rw [List.mem_range] at hi
  unfold kpB
  by_cases h0 : i = 0
  · simp [h0]
  · simp [h0, h i (by omega) hi]
theorem kp_str {f : Fn} {n : Nat} (hs : Sor f 0 n) : Str (kp f n) := by
  unfold kp Str
  rw [List.pairwise_map]
  have h2 : ((List.range n).filter (kpB f)).Pairwise (· < ·) := List.Pairwise.filter _ List.pairwise_lt_range
  refine List.Pairwise.imp_of_mem (fun {i j} hi hj hij => ?_) h2
  rw [List.mem_filter, List.mem_range] at hi hj
  have h3 := hj.2
  unfold kpB at h3
  have h0 : ¬ j = 0 := by omega
  simp [h0] at h3
  have h4 := hs (j - 1) j (Nat.zero_le _) (by omega) hj.1
  by_cases e : i = j - 1
  · subst e; omega
  · have := hs i (j - 1) (Nat.zero_le _) (by omega) (by omega); omega
theorem kp_fd (f : Fn) (k : Int) : ∀ t, fd (kp f t) k = (seg f 0 t).find? (fun q => q.k == k)
  | 0 => by simp [kp, fd, seg]
  | t + 1 => by
    rw [kp_succ, seg_app f (m := t) (Nat.zero_le _) (Nat.le_succ _)]
    have e1 : seg f t (t + 1) = [f t] := by simp [seg]
    unfold fd
    rw [e1, List.find?_append, List.find?_append]
    have ih := kp_fd f k t
    unfold fd at ih
    rw [ih]
    cases e : (seg f 0 t).find? (fun q => q.k == k) with
    | some x => rfl
    | none =>
      simp only [Option.none_or]
      rw [List.find?_eq_none] at e
      by_cases hk : (f t).k = k
      · have : kpB f t = true := by
          unfold kpB
          by_cases h0 : t = 0
          · simp [h0]
          · have := e (f (t - 1)) (mem_seg.2 ⟨t - 1, Nat.zero_le _, by omega, rfl⟩)
            simp at this
            simp [h0]; omega
        rw [if_pos this]
      · split <;> simp [hk]
theorem seg_rev {f : Fn} {l : List Pr} (h : ∀ t, t < l.length → f t = l.getD (l.length - 1 - t) default) : seg f 0 l.length = l.reverse := by
  rw [seg_range]
  apply List.ext_getElem
  · simp
  · intro i h1 h2
    simp at h1
    have : l.length - 1 - i < l.length := by omega
    simp [h i h1, this]
/-- What is left of pairs that were turned round and sorted, the first of each key kept: the map with them. -/
theorem of_is {f0 f : Fn} {l : List Pr} (h : ∀ t, t < l.length → f0 t = l.getD (l.length - 1 - t) default) (hp : StP f0 f 0 l.length) (hs : Sor f 0 l.length) : kp f l.length = mapOf l := by
  refine (kp_str hs).ext (mapOf_str l) (fun k => ?_)
  rw [kp_fd, mapOf_fd, ← seg_rev h, ← List.head?_filter, ← List.head?_filter, hp.fil k]
/-- A place that parts a map by a key. -/
theorem part_at {ps : List Pr} (h : Str ps) {k : Int} {i : Nat} (hi : i ≤ ps.length) (hl : i = 0 ∨ (ps.getD (i - 1) default).k < k) (hr : i = ps.length ∨ k ≤ (ps.getD i default).k) :
    ps.take i = blw ps k ∧ ps.drop i = nbl ps k := by
  have g : ∀ a b (_ : a < b) (hb : b < ps.length), (ps.getD a default).k < (ps.getD b default).k := fun a b hab hb => by
    have := List.pairwise_iff_getElem.1 h a b (by omega) hb hab
    simpa [hb, (by omega : a < ps.length)] using this
  have lo : ∀ x ∈ ps.take i, x.k < k := fun x hx => by
    obtain ⟨j, hj, rfl⟩ := List.mem_iff_getElem.1 hx
    simp at hj
    have e : ps.getD j default = (ps.take i)[j]'(by simpa using hj) := by simp [(by omega : j < ps.length)]
    rw [← e]
    rcases hl with q | q
    · omega
    · by_cases e2 : j = i - 1
      · rw [e2]; exact q
      · have := g j (i - 1) (by omega) (by omega); omega
  have hi2 : ∀ x ∈ ps.drop i, k ≤ x.k := fun x hx => by
    obtain ⟨j, hj, rfl⟩ := List.mem_iff_getElem.1 hx
    simp at hj
    have e : ps.getD (i + j) default = (ps.drop i)[j]'(by simpa using hj) := by simp [(by omega : i + j < ps.length)]
    rw [← e]
    rcases hr with q | q
    · omega
    · by_cases e2 : j = 0
      · rw [e2]; exact q
      · have := g i (i + j) (by omega) (by omega); omega
  constructor
  · unfold blw
    conv => rhs; rw [← List.take_append_drop i ps]
    rw [List.filter_append, List.filter_eq_self.2 (fun x hx => by simpa using lo x hx), List.filter_eq_nil_iff.2 (fun x hx => by have := hi2 x hx; simp; omega), List.append_nil]
  · unfold nbl
    conv => rhs; rw [← List.take_append_drop i ps]
    have e1 : (ps.take i).filter (fun q => decide (k ≤ q.k)) = [] := List.filter_eq_nil_iff.2 (fun x hx => by have := lo x hx; simp; omega)
    rw [List.filter_append, e1, List.filter_eq_self.2 (fun x hx => by simpa using hi2 x hx), List.nil_append]
theorem nbl_abv (ps : List Pr) {k : Int} (h : ∀ x ∈ ps, ¬ x.k = k) : nbl ps k = abv ps k := by
  unfold nbl abv
  apply List.filter_congr
  intro x hx
  have := h x hx
  simp; omega
theorem Str.at_key {ps : List Pr} (h : Str ps) {p : Pr} (hp : p ∈ ps) : nbl ps p.k = p :: abv ps p.k := by
  refine Str.ext_mem (h.filter _) ?_ (fun x => ?_)
  · unfold Str; rw [List.pairwise_cons]; exact ⟨fun q hq => (mem_abv.1 hq).2, h.filter _⟩
  · rw [mem_nbl, List.mem_cons, mem_abv]
    constructor
    · rintro ⟨h1, h2⟩
      by_cases e : p.k = x.k
      · left
        have f1 := h.fd_mem h1
        have f2 := h.fd_mem hp
        rw [e, f1] at f2; exact Option.some.inj f2
      · right; exact ⟨h1, by omega⟩
    · rintro (rfl | ⟨h1, h2⟩)
      · exact ⟨hp, by omega⟩
      · exact ⟨h1, by omega⟩
theorem fd_none {ps : List Pr} {k : Int} (h : fd ps k = none) : ∀ x ∈ ps, ¬ x.k = k := by
  unfold fd at h; rw [List.find?_eq_none] at h
  intro x hx; have := h x hx; simpa using this
end Go.Proofs.Ytapbkonfjieadaa.Q
