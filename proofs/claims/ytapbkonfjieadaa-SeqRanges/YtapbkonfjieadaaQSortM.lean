/-
  The mathematics of a stable sort: rows as functions of a place; parts turned round; what is kept of each key.
-/
import Derived.Test.YtapbkonfjieadaaQPair
namespace Go.Proofs.Ytapbkonfjieadaa.Q
abbrev Fn := Nat → Pr
/-- The parts from a to m and from m to b change their places. -/
def rot (f : Fn) (a m b : Nat) : Fn := fun i => if a ≤ i ∧ i < a + (b - m) then f (i + (m - a)) else if a + (b - m) ≤ i ∧ i < b then f (i - (b - m)) else f i
def seg (f : Fn) (a b : Nat) : List Pr := (List.range' a (b - a)).map f
def Sor (f : Fn) (a b : Nat) : Prop := ∀ i j, a ≤ i → i < j → j < b → (f i).k ≤ (f j).k
theorem rot1 {f : Fn} {a m b i : Nat} (h : a ≤ i ∧ i < a + (b - m)) : rot f a m b i = f (i + (m - a)) := by unfold rot; rw [if_pos h]
theorem rot2 {f : Fn} {a m b i : Nat} (h1 : a + (b - m) ≤ i) (h2 : i < b) : rot f a m b i = f (i - (b - m)) := by
  unfold rot; rw [if_neg (by omega), if_pos ⟨h1, h2⟩]
theorem rot0 {f : Fn} {a m b i : Nat} (hm : a ≤ m) (hb : m ≤ b) (h : i < a ∨ b ≤ i) : rot f a m b i = f i := by
  unfold rot; rw [if_neg (by omega), if_neg (by omega)]
theorem rot_id_l (f : Fn) (m b : Nat) : rot f m m b = f := by
  funext i; unfold rot; split
  · simp
  · split
    · exfalso; omega
    · rfl
theorem rot_id_r (f : Fn) (a m : Nat) : rot f a m m = f := by
  funext i; unfold rot; split
  · exfalso; omega
  · split <;> simp
theorem seg_app (f : Fn) {a m b : Nat} (h1 : a ≤ m) (h2 : m ≤ b) : seg f a b = seg f a m ++ seg f m b := by
  unfold seg
  rw [← List.map_append]
  congr 1
  have := @List.range'_append a (m - a) (b - m) 1
  rw [show a + 1 * (m - a) = m by omega, show (m - a) + (b - m) = b - a by omega] at this
  exact this.symm
theorem seg_nil (f : Fn) (a : Nat) : seg f a a = [] := by simp [seg]
theorem seg_len (f : Fn) (a b : Nat) : (seg f a b).length = b - a := by simp [seg]
theorem seg_congr {f g : Fn} {a b : Nat} (h : ∀ i, a ≤ i → i < b → f i = g i) : seg f a b = seg g a b := by
  unfold seg
  apply List.map_congr_left
  intro i hi
  rw [List.mem_range'_1] at hi
  exact h i hi.1 (by omega)
theorem seg_shift {f g : Fn} {a c n : Nat} (h : ∀ i, i < n → g (a + i) = f (c + i)) : seg g a (a + n) = seg f c (c + n) := by
  unfold seg
  apply List.ext_getElem
  · simp
  · intro i h1 h2
    simp at h1
    simp [h i (by omega)]
theorem mem_seg {f : Fn} {a b : Nat} {x : Pr} : x ∈ seg f a b ↔ ∃ i, a ≤ i ∧ i < b ∧ f i = x := by
  unfold seg
  rw [List.mem_map]
  constructor
  · rintro ⟨i, hi, rfl⟩
    rw [List.mem_range'_1] at hi
    exact ⟨i, hi.1, by omega, rfl⟩
  · rintro ⟨i, h1, h2, rfl⟩
    exact ⟨i, by rw [List.mem_range'_1]; omega, rfl⟩
/-- From a to b, of each key what there was, in its order; elsewhere nothing changed. -/
structure StP (f g : Fn) (a b : Nat) : Prop where
  out : ∀ i, i < a ∨ b ≤ i → g i = f i
  fil : ∀ k, (seg g a b).filter (fun p => p.k == k) = (seg f a b).filter (fun p => p.k == k)
theorem StP.refl (f : Fn) (a b : Nat) : StP f f a b := ⟨fun _ _ => rfl, fun _ => rfl⟩
theorem StP.trans {f g h : Fn} {a b : Nat} (x : StP f g a b) (y : StP g h a b) : StP f h a b :=
  ⟨fun i hi => (y.out i hi).trans (x.out i hi), fun k => (y.fil k).trans (x.fil k)⟩
theorem StP.wide {f g : Fn} {a b c d : Nat} (x : StP f g c d) (h1 : a ≤ c) (h2 : c ≤ d) (h3 : d ≤ b) : StP f g a b := by
  refine ⟨fun i hi => x.out i (by omega), fun k => ?_⟩
  rw [seg_app g (m := c) h1 (by omega), seg_app g (a := c) h2 h3, seg_app f (m := c) h1 (by omega), seg_app f (a := c) h2 h3]
  simp only [List.filter_append]
  rw [x.fil k, seg_congr (f := g) (g := f) (a := a) (b := c) (fun i _ hi => x.out i (by omega)), seg_congr (f := g) (g := f) (a := d) (b := b) (fun i hi _ => x.out i (by omega))]
theorem StP.mem {f g : Fn} {a b i : Nat} (x : StP f g a b) (h1 : a ≤ i) (h2 : i < b) : ∃ j, a ≤ j ∧ j < b ∧ g i = f j := by
  have m1 : g i ∈ (seg g a b).filter (fun p => p.k == (g i).k) := List.mem_filter.2 ⟨mem_seg.2 ⟨i, h1, h2, rfl⟩, by simp⟩
  rw [x.fil] at m1
  obtain ⟨j, h3, h4, h5⟩ := mem_seg.1 (List.mem_filter.1 m1).1
  exact ⟨j, h3, h4, h5.symm⟩
theorem seg_rot (f : Fn) {a m b : Nat} (h1 : a ≤ m) (h2 : m ≤ b) : seg (rot f a m b) a b = seg f m b ++ seg f a m := by
  rw [seg_app _ (m := a + (b - m)) (by omega) (by omega)]
  congr 1
  · have := seg_shift (f := f) (g := rot f a m b) (a := a) (c := m) (n := b - m) (fun i hi => by
      rw [rot1 ⟨by omega, by omega⟩]; congr 1; omega)
    rw [this]; congr 1; omega
  · have := seg_shift (f := f) (g := rot f a m b) (a := a + (b - m)) (c := a) (n := m - a) (fun i hi => by
      rw [rot2 (by omega) (by omega)]; congr 1; omega)
    rw [show a + (b - m) + (m - a) = b by omega, show a + (m - a) = m by omega] at this
    exact this
theorem StP.ofRot {f : Fn} {a m b : Nat} (h1 : a ≤ m) (h2 : m ≤ b) (hne : ∀ i j, a ≤ i → i < m → m ≤ j → j < b → (f i).k ≠ (f j).k) : StP f (rot f a m b) a b := by
  refine ⟨fun i hi => rot0 h1 h2 hi, fun k => ?_⟩
  rw [seg_rot f h1 h2, seg_app f h1 h2, List.filter_append, List.filter_append]
  by_cases hk : (seg f a m).filter (fun p => p.k == k) = []
  · rw [hk]; simp
  · have : (seg f m b).filter (fun p => p.k == k) = [] := by
      rw [List.filter_eq_nil_iff]
      intro y hy hyk
      apply hk
      rw [List.filter_eq_nil_iff]
      intro x hx hxk
      obtain ⟨i, i1, i2, rfl⟩ := mem_seg.1 hx
      obtain ⟨j, j1, j2, rfl⟩ := mem_seg.1 hy
      rw [beq_iff_eq] at hxk hyk
      exact hne i j i1 i2 j1 j2 (hxk.trans hyk.symm)
    rw [this]; simp
/-- A thing is put in its place among those ahead of it. -/
theorem ins_sor {f : Fn} {a i j : Nat} (hs : Sor f a i) (h1 : a ≤ j) (h2 : j ≤ i) (hg : ∀ t, j ≤ t → t < i → (f i).k < (f t).k) (hl : j = a ∨ (f (j - 1)).k ≤ (f i).k) :
    StP f (rot f j i (i + 1)) a (i + 1) ∧ Sor (rot f j i (i + 1)) a (i + 1) := by
  refine ⟨(StP.ofRot h2 (by omega) (fun x y x1 x2 y1 y2 => ?_)).wide h1 (by omega) (by omega), ?_⟩
  · obtain rfl : y = i := by omega
    have := hg x x1 x2; omega
  · intro x y hx hxy hy
    have at1 : ∀ t, t < j → rot f j i (i + 1) t = f t := fun t ht => rot0 h2 (by omega) (by omega)
    have at2 : rot f j i (i + 1) j = f i := by rw [rot1 ⟨by omega, by omega⟩]; congr 1; omega
    have at3 : ∀ t, j < t → t < i + 1 → rot f j i (i + 1) t = f (t - 1) := fun t h h' => by rw [rot2 (by omega) h']; congr 1; omega
    have low : ∀ t, a ≤ t → t < j → (f t).k ≤ (f i).k := fun t ht ht' => by
      rcases hl with e | e
      · omega
      · by_cases h : t = j - 1
        · subst h; exact e
        · have := hs t (j - 1) ht (by omega) (by omega); omega
    rcases Nat.lt_trichotomy x j with c | c | c
    · rw [at1 x c]
      rcases Nat.lt_trichotomy y j with d | d | d
      · rw [at1 y d]; exact hs x y hx hxy (by omega)
      · subst d; rw [at2]; exact low x hx c
      · rw [at3 y d hy]; by_cases h : x = y - 1
        · rw [h]; omega
        · exact hs x (y - 1) hx (by omega) (by omega)
    · subst c; rw [at2, at3 y hxy hy]; have := hg (y - 1) (by omega) (by omega); omega
    · rw [at3 x c (by omega), at3 y (by omega) hy]; exact hs _ _ (by omega) (by omega) (by omega)
/-- The first thing is put in its place among those behind it. -/
theorem first_sor {f : Fn} {a i b : Nat} (hs : Sor f (a + 1) b) (h1 : a + 1 ≤ i) (h2 : i ≤ b) (hl : i = a + 1 ∨ (f (i - 1)).k < (f a).k) (hg : i = b ∨ (f a).k ≤ (f i).k) :
    StP f (rot f a (a + 1) i) a b ∧ Sor (rot f a (a + 1) i) a b := by
  have low : ∀ t, a + 1 ≤ t → t < i → (f t).k < (f a).k := fun t ht ht' => by
    rcases hl with e | e
    · omega
    · by_cases h : t = i - 1
      · subst h; exact e
      · have := hs t (i - 1) ht (by omega) (by omega); omega
  have hi : ∀ t, i ≤ t → t < b → (f a).k ≤ (f t).k := fun t ht ht' => by
    rcases hg with e | e
    · omega
    · by_cases h : i = t
      · subst h; exact e
      · have := hs i t h1 (by omega) ht'; omega
  refine ⟨(StP.ofRot (by omega) h1 (fun x y x1 x2 y1 y2 => ?_)).wide (Nat.le_refl _) (by omega) h2, ?_⟩
  · obtain rfl : x = a := by omega
    have := low y y1 y2; omega
  · intro x y hx hxy hy
    have at1 : ∀ t, a ≤ t → t < i - 1 → rot f a (a + 1) i t = f (t + 1) := fun t h h' => by rw [rot1 ⟨h, by omega⟩]; congr 1; omega
    have at2 : rot f a (a + 1) i (i - 1) = f a := by rw [rot2 (by omega) (by omega)]; congr 1; omega
    have at3 : ∀ t, i ≤ t → rot f a (a + 1) i t = f t := fun t h => rot0 (by omega) h1 (by omega)
    rcases Nat.lt_trichotomy x (i - 1) with c | c | c
    · rw [at1 x hx c]
      rcases Nat.lt_trichotomy y (i - 1) with d | d | d
      · rw [at1 y (by omega) d]; exact hs _ _ (by omega) (by omega) (by omega)
      · subst d; rw [at2]; have := low (x + 1) (by omega) (by omega); omega
      · rw [at3 y (by omega)]; exact hs _ _ (by omega) (by omega) hy
    · subst c; rw [at2, at3 y (by omega)]; exact hi y (by omega) hy
    · rw [at3 x (by omega), at3 y (by omega)]; exact hs _ _ (by omega) hxy hy
theorem last_sor {f : Fn} {a i m : Nat} (hs : Sor f a m) (h1 : a ≤ i) (h2 : i ≤ m) (hl : i = a ∨ (f (i - 1)).k ≤ (f m).k) (hg : i = m ∨ (f m).k < (f i).k) :
    StP f (rot f i m (m + 1)) a (m + 1) ∧ Sor (rot f i m (m + 1)) a (m + 1) := by
  refine ins_sor hs h1 h2 (fun t ht ht' => ?_) hl
  rcases hg with e | e
  · omega
  · by_cases h : i = t
    · subst h; exact e
    · have := hs i t h1 (by omega) ht'; omega
/-- The middle parts change places: what is ahead of the middle is then not above what is behind it. -/
theorem cut_sor {f : Fn} {a m b mid s e : Nat} (hsa : a ≤ s) (hsm : s ≤ m) (hme : m ≤ e) (heb : e ≤ b) (hse : s + e = mid + m)
    (s1 : Sor f a m) (s2 : Sor f m b) (hl : s = a ∨ e = b ∨ (f (s - 1)).k ≤ (f e).k) (hr : s = m ∨ e = m ∨ (f (e - 1)).k < (f s).k) :
    StP f (rot f s m e) a b ∧ Sor (rot f s m e) a s ∧ Sor (rot f s m e) s mid ∧ Sor (rot f s m e) mid e ∧ Sor (rot f s m e) e b ∧ ∀ i j, a ≤ i → i < mid → mid ≤ j → j < b → (rot f s m e i).k ≤ (rot f s m e j).k := by
  have le1 : ∀ i j, a ≤ i → i ≤ j → j < m → (f i).k ≤ (f j).k := fun i j h h' h'' => by
    by_cases q : i = j
    · subst q; omega
    · exact s1 i j h (by omega) h''
  have le2 : ∀ i j, m ≤ i → i ≤ j → j < b → (f i).k ≤ (f j).k := fun i j h h' h'' => by
    by_cases q : i = j
    · subst q; omega
    · exact s2 i j h (by omega) h''
  have lt : ∀ i j, s ≤ i → i < m → m ≤ j → j < e → (f j).k < (f i).k := fun i j i1 i2 j1 j2 => by
    rcases hr with q | q | q
    · omega
    · omega
    · have := le1 s i (by omega) i1 i2; have := le2 j (e - 1) j1 (by omega) (by omega); omega
  have low : ∀ i j, a ≤ i → i < s → e ≤ j → j < b → (f i).k ≤ (f j).k := fun i j i1 i2 j1 j2 => by
    rcases hl with q | q | q
    · omega
    · omega
    · have := le1 i (s - 1) i1 (by omega) (by omega); have := le2 e j (by omega) j1 j2; omega
  have at0 : ∀ t, t < s → rot f s m e t = f t := fun t h => rot0 hsm hme (by omega)
  have at1 : ∀ t, s ≤ t → t < mid → rot f s m e t = f (t + (m - s)) := fun t h h' => rot1 ⟨h, by omega⟩
  have at2 : ∀ t, mid ≤ t → t < e → rot f s m e t = f (t - (e - m)) := fun t h h' => rot2 (by omega) h'
  have at3 : ∀ t, e ≤ t → rot f s m e t = f t := fun t h => rot0 hsm hme (by omega)
  refine ⟨(StP.ofRot hsm hme (fun i j i1 i2 j1 j2 => ?_)).wide hsa (by omega) heb, ?_, ?_, ?_, ?_, ?_⟩
  · have := lt i j i1 i2 j1 j2; omega
  · intro i j h h' h''; rw [at0 i (by omega), at0 j h'']; exact s1 i j h h' (by omega)
  · intro i j h h' h''; rw [at1 i h (by omega), at1 j (by omega) h'']; exact le2 _ _ (by omega) (by omega) (by omega)
  · intro i j h h' h''; rw [at2 i h (by omega), at2 j (by omega) h'']; exact le1 _ _ (by omega) (by omega) (by omega)
  · intro i j h h' h''; rw [at3 i h, at3 j (by omega)]; exact s2 i j (by omega) h' h''
  · intro i j i1 i2 j1 j2
    by_cases ci : i < s
    · rw [at0 i ci]
      by_cases cj : j < e
      · rw [at2 j j1 cj]; exact le1 _ _ i1 (by omega) (by omega)
      · rw [at3 j (by omega)]; exact low i j i1 ci (by omega) j2
    · rw [at1 i (by omega) i2]
      by_cases cj : j < e
      · rw [at2 j j1 cj]; have := lt (j - (e - m)) (i + (m - s)) (by omega) (by omega) (by omega) (by omega); omega
      · rw [at3 j (by omega)]; exact le2 _ _ (by omega) (by omega) j2
/-- Two parts, each sorted for itself behind the cut: the whole is sorted. -/
theorem join_sor {f g h : Fn} {a mid b : Nat} (h1 : a ≤ mid) (h2 : mid ≤ b) (x : StP f g a mid) (y : StP g h mid b) (sx : Sor g a mid) (sy : Sor h mid b) (c : ∀ i j, a ≤ i → i < mid → mid ≤ j → j < b → (f i).k ≤ (f j).k) :
    StP f h a b ∧ Sor h a b := by
  refine ⟨(x.wide (Nat.le_refl _) h1 h2).trans (y.wide h1 h2 (Nat.le_refl _)), fun i j hi hij hj => ?_⟩
  by_cases ci : i < mid
  · rw [y.out i (Or.inl ci)]
    by_cases cj : j < mid
    · rw [y.out j (Or.inl cj)]; exact sx i j hi hij cj
    · obtain ⟨j', j1, j2, e⟩ := y.mem (i := j) (by omega) hj
      obtain ⟨i', i1, i2, e2⟩ := x.mem hi ci
      rw [e, e2, x.out j' (Or.inr j1)]
      exact c i' j' i1 i2 j1 j2
  · exact sy i j (by omega) hij hj
/-- A step of turning two parts round: as many as the lesser has change places. -/
def swr (f : Fn) (a b n : Nat) : Fn := fun i => if a ≤ i ∧ i < a + n then f (i + (b - a)) else if b ≤ i ∧ i < b + n then f (i - (b - a)) else f i
theorem rot_left (f : Fn) {m i j : Nat} (h : j < i) (hm : i ≤ m) : rot (swr f (m - i) m j) (m - (i - j)) m (m + j) = rot f (m - i) m (m + j) := by
  funext t
  unfold rot swr
  repeat' split
  all_goals first | rfl | (congr 1; omega) | (exfalso; omega)
theorem rot_right (f : Fn) {m i j : Nat} (h : i < j) (hm : i ≤ m) : rot (swr f (m - i) (m + j - i) i) (m - i) m (m + (j - i)) = rot f (m - i) m (m + j) := by
  funext t
  unfold rot swr
  repeat' split
  all_goals first | rfl | (congr 1; omega) | (exfalso; omega)
theorem rot_same (f : Fn) {m i : Nat} (hm : i ≤ m) : swr f (m - i) m i = rot f (m - i) m (m + i) := by
  funext t
  unfold rot swr
  repeat' split
  all_goals first | rfl | (congr 1; omega) | (exfalso; omega)
/-- Two places are exchanged. -/
def xch (f : Fn) (i j : Nat) : Fn := fun t => if t = i then f j else if t = j then f i else f t
theorem swr_zero (f : Fn) (a b : Nat) : swr f a b 0 = f := by
  funext t; unfold swr; rw [if_neg (by omega), if_neg (by omega)]
theorem swr_next (f : Fn) {a b n : Nat} (h : a + n < b) : xch (swr f a b n) (a + n) (b + n) = swr f a b (n + 1) := by
  funext t
  unfold xch swr
  repeat' split
  all_goals first | rfl | (congr 1; omega) | (exfalso; omega)
theorem rot_up (f : Fn) {a k : Nat} (h : a ≤ k) : xch (rot f a (a + 1) (k + 1)) k (k + 1) = rot f a (a + 1) (k + 1 + 1) := by
  funext t
  unfold xch rot
  repeat' split
  all_goals first | rfl | (congr 1; omega) | (exfalso; omega)
theorem rot_down (f : Fn) {k m : Nat} (h : k + 1 ≤ m) : xch (rot f (k + 1) m (m + 1)) (k + 1) k = rot f k m (m + 1) := by
  funext t
  unfold xch rot
  repeat' split
  all_goals first | rfl | (congr 1; omega) | (exfalso; omega)
/-- The first places turned round, up to i. -/
def rvs (f : Fn) (n i : Nat) : Fn := fun t => if t < i ∨ (n - i ≤ t ∧ t < n) then f (n - 1 - t) else f t
theorem rvs_next (f : Fn) {n i : Nat} (h : i < n - 1 - i) : xch (rvs f n i) i (n - 1 - i) = rvs f n (i + 1) := by
  funext t
  unfold xch rvs
  repeat' split
  all_goals first | rfl | (congr 1; omega) | (exfalso; omega)
theorem rvs_zero (f : Fn) (n : Nat) : rvs f n 0 = f := by
  funext t; unfold rvs; rw [if_neg (by omega)]
theorem rvs_end (f : Fn) {n i : Nat} (h : ¬ i < n - 1 - i) (hi : i ≤ n) (t : Nat) (ht : t < n) : rvs f n i t = f (n - 1 - t) := by
  unfold rvs
  split
  · rfl
  · congr 1; omega
end Go.Proofs.Ytapbkonfjieadaa.Q
