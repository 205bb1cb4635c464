/-
  Pairs: two words each; slices of them; rows of them that 'append' has made.
  The mathematics of a stable sort: rows as functions of a place; parts turned round; what is kept of each key.
  The contracts of comparing: keys, pairs by their keys.
  A row of pairs that is written in place; parts of it change their places.
  The library's sort of a few pairs, one put in its place behind the other.
  The library's merge in place of two parts that are sorted each: in general.
  The library's stable sort of pairs by their keys.
  The mathematics of a map that is a row of its pairs, by rising keys.
  The contracts of the library's Clone, Reverse and CompactFunc at pairs.
  The contract of the library's CompactFunc at pairs; the map with any pairs (Of).
  The map with any pairs (Of); the pairs of a map (Pairs).
-/
import Derived.Test.YtlmkcakmeldfeaaOwn
import Derived.Deep.AppendLies
import Derived.Deep.RegionHeld3
import Derived.Deep.Cut
import Derived.Deep.Upon
import Derived.ArgAppend
import Derived.BigRegion
namespace Go.Proofs.Ytlmkcakmeldfeaa.Q
set_option maxRecDepth 100000
open Go.ChangeShapes Go.WideShapes Go.ChangeAt Go.RowKit
open Go.Deep
/-- A pair: a key, its value. -/
structure Pr where
  k : Int
  v : Int
deriving DecidableEq
instance : Inhabited Pr := ⟨⟨0, 0⟩⟩
def pC (p : Pr) : List Value := [.int .u64 p.k, .int .u64 p.v]
def fl : List Pr → List Value
  | [] => []
  | e :: l => pC e ++ fl l
theorem fl_len : ∀ l : List Pr, (fl l).length = l.length * 2
  | [] => rfl
  | e :: l => by rw [fl, List.length_append, fl_len l, List.length_cons]; simp [pC]; omega
theorem fl_app : ∀ a b : List Pr, fl (a ++ b) = fl a ++ fl b
  | [], _ => rfl
  | e :: a, b => by rw [List.cons_append, fl, fl, fl_app a b, List.append_assoc]
theorem fl_get : ∀ (l : List Pr) (i : Nat) (h : i < l.length) (j : Nat) (v : Value), (pC l[i])[j]? = some v → (fl l)[i * 2 + j]? = some v
  | [], i, h, _, _, _ => absurd h (by simp)
  | e :: l, 0, _, j, v, hv => by
    have hv' : (pC e)[j]? = some v := hv
    rw [fl, Nat.zero_mul, Nat.zero_add, List.getElem?_append_left (List.getElem?_eq_some_iff.1 hv').1]; exact hv'
  | e :: l, i + 1, h, j, v, hv => by
    rw [fl, List.getElem?_append_right (by simp [pC]; omega)]
    have := fl_get l i (by simpa using h) j v (by simpa using hv)
    rw [← this]; congr 1; simp [pC]; omega
theorem fl_one (l : List Pr) : ∀ u ∈ fl l, u.oneCell' = true := by
  induction l with
  | nil => simp [fl]
  | cons e l ih => intro u hu; rw [fl, List.mem_append] at hu; rcases hu with hu | hu; · simp [pC] at hu; rcases hu with rfl | rfl <;> rfl
                   · exact ih u hu
/-- A slice of pairs, wherever it lies. -/
abbrev SlP := SlOf 2 pC
theorem SlP.row {w : World} {ao : Option Addr} {es : List Pr} (h : SlP w ao es) {k : Nat} (hk : k < es.length) :
    ∃ b off, ao = some ⟨b, off, none⟩ ∧ b < w.heap.size ∧ w.cell? ⟨b, off + k * 2, none⟩ = some (.int .u64 (es.getD k default).k) ∧ w.cell? ⟨b, off + k * 2 + 1, none⟩ = some (.int .u64 (es.getD k default).v) := by
  obtain ⟨b, off, rfl, hb, hc⟩ := h (by omega)
  have e : es.getD k default = es[k] := by simp [hk]
  rw [e]
  exact ⟨b, off, rfl, hb, hc k hk 0 _ rfl, hc k hk 1 _ rfl⟩
theorem SlP.nil (w : World) (ao : Option Addr) : SlP w ao [] := fun h => absurd h (by simp)
/-- The cells of a slice of pairs. -/
theorem SlP.cells {w : World} {ad : Addr} {es : List Pr} (h : SlP w (some ad) es) : ∀ j v, (fl es)[j]? = some v → w.cell? (ad.add j) = some v := by
  intro j v hv
  have hj : j < es.length * 2 := by rw [← fl_len]; exact (List.getElem?_eq_some_iff.1 hv).1
  obtain ⟨b, off, he, hb, hc⟩ := h (by omega)
  cases he
  have hi : j / 2 < es.length := by omega
  rw [add_plain]
  have e : j = j / 2 * 2 + j % 2 := by omega
  have h2 : (pC es[j / 2])[j % 2]? = some v := by
    have hlt : j % 2 < (pC es[j / 2]).length := by simp [pC]; omega
    have := fl_get es (j / 2) hi (j % 2) _ (List.getElem?_eq_getElem hlt)
    rw [← e, hv] at this
    rw [List.getElem?_eq_getElem hlt]; exact this.symm
  have := hc (j / 2) hi (j % 2) v h2
  rwa [Nat.add_assoc, ← e] at this
theorem SlP.take {w : World} {ao : Option Addr} {es : List Pr} (h : SlP w ao es) (n : Nat) : SlP w ao (es.take n) := by
  intro h0
  obtain ⟨b, off, rfl, hb, hc⟩ := h (by simp at h0; omega)
  refine ⟨b, off, rfl, hb, fun i hi j v hv => hc i (by simp at hi; omega) j v (by simpa using hv)⟩
/-- A part of a slice that begins at its place n. -/
theorem SlP.drop {w : World} {b off : Nat} {es : List Pr} (h : SlP w (some ⟨b, off, none⟩) es) (n : Nat) : SlP w (some ⟨b, off + n * 2, none⟩) (es.drop n) := by
  intro h0
  obtain ⟨b', off', he, hb, hc⟩ := h (by simp at h0; omega)
  cases he
  refine ⟨b, off + n * 2, rfl, hb, fun i hi j v hv => ?_⟩
  have := hc (n + i) (by simp at hi; omega) j v (by simpa using hv)
  rw [← this]; congr 2; rw [Nat.add_mul]; omega
theorem take_next {α : Type} {l : List α} {k : Nat} (h : k < l.length) (d : α) : l.take (k + 1) = l.take k ++ [l.getD k d] := by
  rw [List.take_add_one]; simp [h]
/-- Pairs in a row of their own. -/
def OwnP (w : World) (base : Nat) (T : TypeId) (v : Value) (es : List Pr) : Prop := w.ownsRow base T 2 v es.length (fl es)
theorem OwnP.nil (w : World) (base : Nat) (T : TypeId) : OwnP w base T (.slice none 0 0) [] := ⟨rfl, Or.inl ⟨rfl, rfl⟩⟩
theorem OwnP.kept {l : List Nat} {w w' : World} {base : Nat} {T : TypeId} {v : Value} {es : List Pr} (h : OwnP w base T v es) (k : Kept l w w') (hn : ∀ g, v.ownBlock = some g → g ∉ l) : OwnP w' base T v es := by
  obtain ⟨h1, h2 | ⟨g, cap, cur, rfl, hb, hg, hr⟩⟩ := h
  · exact ⟨h1, Or.inl h2⟩
  · exact ⟨h1, Or.inr ⟨g, cap, cur, rfl, hb, k.blk hg (hn g rfl), hr⟩⟩
theorem OwnP.new {w w' : World} {base : Nat} {T : TypeId} {v : Value} {es : List Pr} (h : OwnP w base T v es) (k : Kept [] w w') : OwnP w' base T v es := h.kept k (by simp)
theorem OwnP.base {w : World} {b T : Nat} {v : Value} {es : List Pr} (h : OwnP w b T v es) : ∀ g, v.ownBlock = some g → b ≤ g ∧ g < w.heap.size := World.ownsRow.lt h
theorem own_cell {w : World} {g : Nat} {T : TypeId} {cur : Array Value} {es : List Pr} {n : Nat} (hg : w.heap[g]? = some (.cells cur T (0, 0))) (hn : n = es.length) (htk : cur.toList.take (n * 2) = fl es) : SlP w (some ⟨g, 0, none⟩) es := by
  subst hn
  refine fun h0 => ⟨g, 0, rfl, lt_of_blk hg, fun i hi j v hv => ?_⟩
  rw [Nat.zero_add]
  refine cell_of_blk hg ?_
  have q := fl_get es i hi j v hv
  rw [← htk, List.getElem?_take] at q
  split at q
  · rw [← Array.getElem?_toList]; exact q
  · cases q
theorem OwnP.shape {w : World} {base : Nat} {T : TypeId} {v : Value} {es : List Pr} (h : OwnP w base T v es) : ∃ ao cap, v = .slice ao es.length cap ∧ SlP w ao es ∧ es.length ≤ cap ∧ (ao = none → cap = 0) := by
  obtain ⟨h1, ⟨rfl, h0⟩ | ⟨g, cap, cur, rfl, hb, hg, hnc, hcm, hsz, htk⟩⟩ := h
  · have : es = [] := List.eq_nil_of_length_eq_zero h0
    subst this
    exact ⟨none, 0, rfl, SlP.nil _ _, Nat.le_refl _, fun _ => rfl⟩
  · exact ⟨_, cap, rfl, own_cell hg rfl htk, hnc, by simp⟩
theorem Kept.ob {w w1 : World} {v : Value} (hg : w.grownBy w1 v.ownBlock) : Kept v.ownBlock.toList w w1 :=
  ⟨hg.os, hg.tape, hg.output, hg.size, fun k hk hn => hg.block k hk (fun e => hn (by rw [← e]; simp))⟩
/-- The layout of a type of pairs. -/
def IsP (T : TypeId) : Prop := (Try.prog.info? T).map (fun i => (i.zero, i.size, i.bytes)) = some (some (.agg #[.int .u64 0, .int .u64 0]), 2, 16)
theorem info_ref : IsP 61 := by unfold IsP; kernel_rfl
theorem info_seq : IsP 56 := by unfold IsP; kernel_rfl
/-- 'append' of one pair that a literal has just made. -/
theorem append_pair {t T : TypeId} (ty : TypeId) (ht : Try.prog.underlying t = some (.slice T)) (hinfo : IsP T)
    (w : World) (base H : Nat) (v : Value) (es : List Pr) (e : Pr) (hH : w.heap.size = H) (hR : OwnP w base T v es) (hb : base ≤ w.heap.size) (hm : es.length ≤ 100000) :
    ∃ g cap w1, (Builtin.append_ #[t, t] ty #[v, .slice (some ⟨H, 0, none⟩) 1 1]).run Try.prog (w.alloc (.cells #[.int .u64 e.k, .int .u64 e.v] T)) = .ok (.slice (some ⟨g, 0, none⟩) (es.length + 1) cap) w1 ∧
      OwnP w1 base T (.slice (some ⟨g, 0, none⟩) (es.length + 1) cap) (es ++ [e]) ∧ (v.ownBlock = some g ∨ w.heap.size ≤ g) ∧ Kept v.ownBlock.toList w w1 := by
  subst hH
  obtain ⟨i, hi, hz0, hz1, hz2⟩ := info_parts' hinfo
  have hR' := hR.new ((Kept.refl [] w).alloc (.cells #[.int .u64 e.k, .int .u64 e.v] T))
  have hnews := World.news_of_block (blk_alloc_new w (.cells #[.int .u64 e.k, .int .u64 e.v] T))
  obtain ⟨g, cap, w1, hrun, hown, hg, hat, hlt⟩ := run_append_lies (P := Try.prog) (w.alloc (.cells #[.int .u64 e.k, .int .u64 e.v] T)) t ty base T i _ 2 16 ht hi hz0 hz1 hz2 rfl (by decide) v es.length (fl es) hR' ⟨w.heap.size, 0, none⟩ 1 1 (pC e) rfl hnews
    (by intro u hu; simp [pC] at hu; rcases hu with rfl | rfl <;> rfl) (by omega) (by unfold maxLen; omega) (by omega) (by rw [nblk_alloc]; omega) _ rfl
  refine ⟨g, cap, w1, hrun, ?_, ?_, ?_⟩
  · unfold OwnP; rw [fl_app, List.length_append]; exact hown
  · rcases hat with h | h
    · exact Or.inl h
    · right; rw [h, nblk_alloc]; omega
  · exact ((Kept.refl _ w).alloc _).trans (Kept.ob hg)
/-- What was made of nothing is no block of w. -/
theorem Kept.ofOwn {w a b : World} {base T : Nat} {v : Value} {es : List Pr} (h : Kept [] w a) (o : OwnP a base T v es) (hb : w.heap.size ≤ base) (k : Kept v.ownBlock.toList a b) : Kept [] w b :=
  h.then k (by intro x hx; right; have := (o.base x (by simpa using hx)).1; omega)
theorem same_at {w w' : World} (k : Kept [] w w') {b o : Nat} {v : Value} (h : w.cell? ⟨b, o, none⟩ = some v) : w'.cell? ⟨b, o, none⟩ = some v := by
  rw [kept_cell k (lt_of_cell h)]; exact h
theorem own_pairs {w : World} {base n T : Nat} {v : Value} {xs : List Pr} (hn : n = xs.length) (h : w.ownsRow base T 2 v n (fl xs)) : OwnP w base T v xs := by subst hn; exact h
/-- 'append' of pairs to pairs that came in and have no room. -/
theorem append_full {t T : TypeId} (ty : TypeId) (ht : Try.prog.underlying t = some (.slice T)) (hinfo : IsP T) (w : World) (ao bo : Option Addr) (xs ys : List Pr) (n m cb : Nat) (hn : n = xs.length) (hm : m = ys.length) (ha : SlP w ao xs) (hb : SlP w bo ys) (hl : n ≤ 100000) (hk : m ≤ 100000) :
    ∃ co c' w1, (Builtin.append_ #[t, t] ty #[.slice ao n n, .slice bo m cb]).run Try.prog w = .ok (.slice co (n + m) c') w1 ∧ SlP w1 co (xs ++ ys) ∧ n + m ≤ c' ∧ (co = none → c' = 0) ∧ (0 < m → OwnP w1 w.heap.size T (.slice co (n + m) c') (xs ++ ys)) ∧ Kept [] w w1 := by
  obtain ⟨i, hi, hz0, hz1, hz2⟩ := info_parts' hinfo
  by_cases h0 : m = 0
  · subst h0
    have hy : ys = [] := List.eq_nil_of_length_eq_zero hm.symm
    subst hy
    have hs : Src Try.prog i.size t (.slice bo 0 cb) 0 [] w := by
      cases bo with
      | none => exact Src.ofNil w ht cb
      | some a => exact Src.ofSlice w ht a 0 cb [] (by simp) (by simp) (by simp)
    refine ⟨ao, n, w, run_append_nothing (P := Try.prog) w t t ty T i ht hi ao n n (Nat.le_refl _) _ hs, by rw [List.append_nil]; exact ha, by omega, ?_, fun h => absurd h (by omega), Kept.refl _ _⟩
    rintro rfl
    cases xs with
    | nil => simpa using hn
    | cons a r => obtain ⟨ad, _, h, _⟩ := ha (by simp); cases h
  · obtain ⟨ad, ofs, rfl, _, _⟩ := hb (by omega)
    have hnm : n + m = (xs ++ ys).length := by rw [List.length_append, hn, hm]
    have one := fl_one ys
    cases ao with
    | none =>
      have hx : xs = [] := by
        cases xs with
        | nil => rfl
        | cons a r => obtain ⟨ad, _, h, _⟩ := ha (by simp); cases h
      subst hx
      have h9 : n = 0 := hn
      subst h9
      have hown : w.ownsRow w.heap.size T 2 (.slice none 0 0) 0 [] := ⟨rfl, Or.inl ⟨rfl, rfl⟩⟩
      obtain ⟨v', w1, hrun, hown', hg, _⟩ := run_append_own (P := Try.prog) w w.heap.size t ty T i _ 2 16 ht hi hz0 hz1 hz2 rfl (by decide) _ 0 [] hown _ m cb (fl ys) (by rw [fl_len, hm]) hb.cells one (by unfold maxLen; omega) (by omega) (Nat.le_refl _)
      rw [List.nil_append] at hown'
      have O := own_pairs (by rw [Nat.zero_add]; exact hm) hown'
      obtain ⟨co, c', rfl, S, l1, l2⟩ := O.shape
      rw [← hm] at hrun O l1
      rw [List.nil_append, Nat.zero_add]
      exact ⟨co, c', w1, hrun, S, l1, l2, fun _ => O, ⟨hg.os, hg.tape, hg.output, hg.size, fun k hk _ => hg.block k hk (by simp [Value.ownBlock])⟩⟩
    | some b =>
      obtain ⟨v', w1, hrun, hown', hg⟩ := run_append_arg_grows (P := Try.prog) w t ty T i _ 2 16 ht hi hz0 hz1 hz2 rfl (by decide) b n n (fl xs) (by rw [fl_len, hn]) ha.cells _ m cb (fl ys) (by rw [fl_len, hm]) hb.cells (by omega) (by unfold maxLen; omega) (by omega)
      rw [← fl_app] at hown'
      have O := own_pairs hnm hown'
      obtain ⟨co, c', rfl, S, l1, l2⟩ := O.shape
      rw [← hnm] at hrun O l1
      exact ⟨co, c', w1, hrun, S, l1, l2, fun _ => O, ⟨hg.os, hg.tape, hg.output, hg.size, fun k hk _ => hg.block k hk (by simp)⟩⟩
/-- 'append' of pairs to a row of its own. -/
theorem append_own {t T : TypeId} (ty : TypeId) (ht : Try.prog.underlying t = some (.slice T)) (hinfo : IsP T) (w : World) (base : Nat) (v : Value) (bo : Option Addr) (xs ys : List Pr) (m cb : Nat) (hm : m = ys.length) (hR : OwnP w base T v xs) (hb : SlP w bo ys) (hc : bo = none → cb = 0) (hbase : base ≤ w.heap.size) (hl : xs.length ≤ 100000) (hk : m ≤ 100000) :
    ∃ u w1, (Builtin.append_ #[t, t] ty #[v, .slice bo m cb]).run Try.prog w = .ok u w1 ∧ OwnP w1 base T u (xs ++ ys) ∧ Kept v.ownBlock.toList w w1 := by
  obtain ⟨i, hi, hz0, hz1, hz2⟩ := info_parts' hinfo
  cases bo with
  | none =>
    have hy : ys = [] := by
      cases ys with
      | nil => rfl
      | cons a r => obtain ⟨ad, _, h, _⟩ := hb (by simp); cases h
    subst hy
    have h9 : m = 0 := hm
    subst h9
    obtain rfl := hc rfl
    exact ⟨v, w, run_append_owned_none (P := Try.prog) (w := w) base t ty T i 2 ht hi _ _ _ hR, by rw [List.append_nil]; exact hR, Kept.refl _ _⟩
  | some ad =>
    obtain ⟨v', w1, hrun, hown', hg, _⟩ := run_append_own (P := Try.prog) w base t ty T i _ 2 16 ht hi hz0 hz1 hz2 rfl (by decide) _ _ _ hR ad m cb (fl ys) (by rw [fl_len, hm]) hb.cells (fl_one ys) (by unfold maxLen; omega) (by omega) hbase
    rw [← fl_app] at hown'
    exact ⟨v', w1, hrun, own_pairs (by rw [List.length_append, hm]) hown', Kept.ob hg⟩
end Go.Proofs.Ytlmkcakmeldfeaa.Q
namespace Go.Proofs.Ytlmkcakmeldfeaa.Q
abbrev Fn := Nat → Pr
/-- The parts from a to m and from m to b change their places. -/
def rot (f : Fn) (a m b : Nat) : Fn := fun i => if a ≤ i ∧ i < a + (b - m) then f (i + (m - a)) else if a + (b - m) ≤ i ∧ i < b then f (i - (b - m)) else f i
def seg (f : Fn) (a b : Nat) : List Pr := (List.range' a (b - a)).map f
def Sor (f : Fn) (a b : Nat) : Prop := ∀ i j, a ≤ i → i < j → j < b → (f i).k ≤ (f j).k
theorem rot1 {f : Fn} {a m b i : Nat} (h : a ≤ i ∧ i < a + (b - m)) : rot f a m b i = f (i + (m - a)) := by unfold rot; rw [if_pos h]
theorem rot2 {f : Fn} {a m b i : Nat} (h1 : a + (b - m) ≤ i) (h2 : i < b) : rot f a m b i = f (i - (b - m)) := by
  unfold rot; rw [if_neg (by omega), if_pos ⟨h1, h2⟩]
theorem rot0 {f : Fn} {a m b i : Nat} (hm : a ≤ m) (hb : m ≤ b) (h : i < a ∨ b ≤ i) : rot f a m b i = f i := by
  unfold rot; rw [if_neg (by omega), if_neg (by omega)]
theorem rot_id_l (f : Fn) (m b : Nat) : rot f m m b = f := by
  funext i; unfold rot; split
  · simp
  · split
    · exfalso; omega
    · rfl
theorem rot_id_r (f : Fn) (a m : Nat) : rot f a m m = f := by
  funext i; unfold rot; split
  · exfalso; omega
  · split <;> simp
theorem seg_app (f : Fn) {a m b : Nat} (h1 : a ≤ m) (h2 : m ≤ b) : seg f a b = seg f a m ++ seg f m b := by
  unfold seg
  rw [← List.map_append]
  congr 1
  have := @List.range'_append a (m - a) (b - m) 1
  rw [show a + 1 * (m - a) = m by omega, show (m - a) + (b - m) = b - a by omega] at this
  exact this.symm
theorem seg_nil (f : Fn) (a : Nat) : seg f a a = [] := by simp [seg]
theorem seg_len (f : Fn) (a b : Nat) : (seg f a b).length = b - a := by simp [seg]
theorem seg_congr {f g : Fn} {a b : Nat} (h : ∀ i, a ≤ i → i < b → f i = g i) : seg f a b = seg g a b := by
  unfold seg
  apply List.map_congr_left
  intro i hi
  rw [List.mem_range'_1] at hi
  exact h i hi.1 (by omega)
theorem seg_shift {f g : Fn} {a c n : Nat} (h : ∀ i, i < n → g (a + i) = f (c + i)) : seg g a (a + n) = seg f c (c + n) := by
  unfold seg
  apply List.ext_getElem
  · simp
  · intro i h1 h2
    simp at h1
    simp [h i (by omega)]
theorem mem_seg {f : Fn} {a b : Nat} {x : Pr} : x ∈ seg f a b ↔ ∃ i, a ≤ i ∧ i < b ∧ f i = x := by
  unfold seg
  rw [List.mem_map]
  constructor
  · rintro ⟨i, hi, rfl⟩
    rw [List.mem_range'_1] at hi
    exact ⟨i, hi.1, by omega, rfl⟩
  · rintro ⟨i, h1, h2, rfl⟩
    exact ⟨i, by rw [List.mem_range'_1]; omega, rfl⟩
/-- From a to b, of each key what there was, in its order; elsewhere nothing changed. -/
structure StP (f g : Fn) (a b : Nat) : Prop where
  out : ∀ i, i < a ∨ b ≤ i → g i = f i
  fil : ∀ k, (seg g a b).filter (fun p => p.k == k) = (seg f a b).filter (fun p => p.k == k)
theorem StP.refl (f : Fn) (a b : Nat) : StP f f a b := ⟨fun _ _ => rfl, fun _ => rfl⟩
theorem StP.trans {f g h : Fn} {a b : Nat} (x : StP f g a b) (y : StP g h a b) : StP f h a b :=
  ⟨fun i hi => (y.out i hi).trans (x.out i hi), fun k => (y.fil k).trans (x.fil k)⟩
theorem StP.wide {f g : Fn} {a b c d : Nat} (x : StP f g c d) (h1 : a ≤ c) (h2 : c ≤ d) (h3 : d ≤ b) : StP f g a b := by
  refine ⟨fun i hi => x.out i (by omega), fun k => ?_⟩
  rw [seg_app g (m := c) h1 (by omega), seg_app g (a := c) h2 h3, seg_app f (m := c) h1 (by omega), seg_app f (a := c) h2 h3]
  simp only [List.filter_append]
  rw [x.fil k, seg_congr (f := g) (g := f) (a := a) (b := c) (fun i _ hi => x.out i (by omega)), seg_congr (f := g) (g := f) (a := d) (b := b) (fun i hi _ => x.out i (by omega))]
theorem StP.mem {f g : Fn} {a b i : Nat} (x : StP f g a b) (h1 : a ≤ i) (h2 : i < b) : ∃ j, a ≤ j ∧ j < b ∧ g i = f j := by
  have m1 : g i ∈ (seg g a b).filter (fun p => p.k == (g i).k) := List.mem_filter.2 ⟨mem_seg.2 ⟨i, h1, h2, rfl⟩, by simp⟩
  rw [x.fil] at m1
  obtain ⟨j, h3, h4, h5⟩ := mem_seg.1 (List.mem_filter.1 m1).1
  exact ⟨j, h3, h4, h5.symm⟩
theorem seg_rot (f : Fn) {a m b : Nat} (h1 : a ≤ m) (h2 : m ≤ b) : seg (rot f a m b) a b = seg f m b ++ seg f a m := by
  rw [seg_app _ (m := a + (b - m)) (by omega) (by omega)]
  congr 1
  · have := seg_shift (f := f) (g := rot f a m b) (a := a) (c := m) (n := b - m) (fun i hi => by
      rw [rot1 ⟨by omega, by omega⟩]; congr 1; omega)
    rw [this]; congr 1; omega
  · have := seg_shift (f := f) (g := rot f a m b) (a := a + (b - m)) (c := a) (n := m - a) (fun i hi => by
      rw [rot2 (by omega) (by omega)]; congr 1; omega)
    rw [show a + (b - m) + (m - a) = b by omega, show a + (m - a) = m by omega] at this
    exact this
theorem StP.ofRot {f : Fn} {a m b : Nat} (h1 : a ≤ m) (h2 : m ≤ b) (hne : ∀ i j, a ≤ i → i < m → m ≤ j → j < b → (f i).k ≠ (f j).k) : StP f (rot f a m b) a b := by
  refine ⟨fun i hi => rot0 h1 h2 hi, fun k => ?_⟩
  rw [seg_rot f h1 h2, seg_app f h1 h2, List.filter_append, List.filter_append]
  by_cases hk : (seg f a m).filter (fun p => p.k == k) = []
  · rw [hk]; simp
  · have : (seg f m b).filter (fun p => p.k == k) = [] := by
      rw [List.filter_eq_nil_iff]
      intro y hy hyk
      apply hk
      rw [List.filter_eq_nil_iff]
      intro x hx hxk
      obtain ⟨i, i1, i2, rfl⟩ := mem_seg.1 hx
      obtain ⟨j, j1, j2, rfl⟩ := mem_seg.1 hy
      rw [beq_iff_eq] at hxk hyk
      exact hne i j i1 i2 j1 j2 (hxk.trans hyk.symm)
    rw [this]; simp
/-- A thing is put in its place among those ahead of it. -/
theorem ins_sor {f : Fn} {a i j : Nat} (hs : Sor f a i) (h1 : a ≤ j) (h2 : j ≤ i) (hg : ∀ t, j ≤ t → t < i → (f i).k < (f t).k) (hl : j = a ∨ (f (j - 1)).k ≤ (f i).k) :
    StP f (rot f j i (i + 1)) a (i + 1) ∧ Sor (rot f j i (i + 1)) a (i + 1) := by
  refine ⟨(StP.ofRot h2 (by omega) (fun x y x1 x2 y1 y2 => ?_)).wide h1 (by omega) (by omega), ?_⟩
  · obtain rfl : y = i := by omega
    have := hg x x1 x2; omega
  · intro x y hx hxy hy
    have at1 : ∀ t, t < j → rot f j i (i + 1) t = f t := fun t ht => rot0 h2 (by omega) (by omega)
    have at2 : rot f j i (i + 1) j = f i := by rw [rot1 ⟨by omega, by omega⟩]; congr 1; omega
    have at3 : ∀ t, j < t → t < i + 1 → rot f j i (i + 1) t = f (t - 1) := fun t h h' => by rw [rot2 (by omega) h']; congr 1; omega
    have low : ∀ t, a ≤ t → t < j → (f t).k ≤ (f i).k := fun t ht ht' => by
      rcases hl with e | e
      · omega
      · by_cases h : t = j - 1
        · subst h; exact e
        · have := hs t (j - 1) ht (by omega) (by omega); omega
    rcases Nat.lt_trichotomy x j with c | c | c
    · rw [at1 x c]
      rcases Nat.lt_trichotomy y j with d | d | d
      · rw [at1 y d]; exact hs x y hx hxy (by omega)
      · subst d; rw [at2]; exact low x hx c
      · rw [at3 y d hy]; by_cases h : x = y - 1
        · rw [h]; omega
        · exact hs x (y - 1) hx (by omega) (by omega)
    · subst c; rw [at2, at3 y hxy hy]; have := hg (y - 1) (by omega) (by omega); omega
    · rw [at3 x c (by omega), at3 y (by omega) hy]; exact hs _ _ (by omega) (by omega) (by omega)
/-- The first thing is put in its place among those behind it. -/
theorem first_sor {f : Fn} {a i b : Nat} (hs : Sor f (a + 1) b) (h1 : a + 1 ≤ i) (h2 : i ≤ b) (hl : i = a + 1 ∨ (f (i - 1)).k < (f a).k) (hg : i = b ∨ (f a).k ≤ (f i).k) :
    StP f (rot f a (a + 1) i) a b ∧ Sor (rot f a (a + 1) i) a b := by
  have low : ∀ t, a + 1 ≤ t → t < i → (f t).k < (f a).k := fun t ht ht' => by
    rcases hl with e | e
    · omega
    · by_cases h : t = i - 1
      · subst h; exact e
      · have := hs t (i - 1) ht (by omega) (by omega); omega
  have hi : ∀ t, i ≤ t → t < b → (f a).k ≤ (f t).k := fun t ht ht' => by
    rcases hg with e | e
    · omega
    · by_cases h : i = t
      · subst h; exact e
      · have := hs i t h1 (by omega) ht'; omega
  refine ⟨(StP.ofRot (by omega) h1 (fun x y x1 x2 y1 y2 => ?_)).wide (Nat.le_refl _) (by omega) h2, ?_⟩
  · obtain rfl : x = a := by omega
    have := low y y1 y2; omega
  · intro x y hx hxy hy
    have at1 : ∀ t, a ≤ t → t < i - 1 → rot f a (a + 1) i t = f (t + 1) := fun t h h' => by rw [rot1 ⟨h, by omega⟩]; congr 1; omega
    have at2 : rot f a (a + 1) i (i - 1) = f a := by rw [rot2 (by omega) (by omega)]; congr 1; omega
    have at3 : ∀ t, i ≤ t → rot f a (a + 1) i t = f t := fun t h => rot0 (by omega) h1 (by omega)
    rcases Nat.lt_trichotomy x (i - 1) with c | c | c
    · rw [at1 x hx c]
      rcases Nat.lt_trichotomy y (i - 1) with d | d | d
      · rw [at1 y (by omega) d]; exact hs _ _ (by omega) (by omega) (by omega)
      · subst d; rw [at2]; have := low (x + 1) (by omega) (by omega); omega
      · rw [at3 y (by omega)]; exact hs _ _ (by omega) (by omega) hy
    · subst c; rw [at2, at3 y (by omega)]; exact hi y (by omega) hy
    · rw [at3 x (by omega), at3 y (by omega)]; exact hs _ _ (by omega) hxy hy
theorem last_sor {f : Fn} {a i m : Nat} (hs : Sor f a m) (h1 : a ≤ i) (h2 : i ≤ m) (hl : i = a ∨ (f (i - 1)).k ≤ (f m).k) (hg : i = m ∨ (f m).k < (f i).k) :
    StP f (rot f i m (m + 1)) a (m + 1) ∧ Sor (rot f i m (m + 1)) a (m + 1) := by
  refine ins_sor hs h1 h2 (fun t ht ht' => ?_) hl
  rcases hg with e | e
  · omega
  · by_cases h : i = t
    · subst h; exact e
    · have := hs i t h1 (by omega) ht'; omega
/-- The middle parts change places: what is ahead of the middle is then not above what is behind it. -/
theorem cut_sor {f : Fn} {a m b mid s e : Nat} (hsa : a ≤ s) (hsm : s ≤ m) (hme : m ≤ e) (heb : e ≤ b) (hse : s + e = mid + m)
    (s1 : Sor f a m) (s2 : Sor f m b) (hl : s = a ∨ e = b ∨ (f (s - 1)).k ≤ (f e).k) (hr : s = m ∨ e = m ∨ (f (e - 1)).k < (f s).k) :
    StP f (rot f s m e) a b ∧ Sor (rot f s m e) a s ∧ Sor (rot f s m e) s mid ∧ Sor (rot f s m e) mid e ∧ Sor (rot f s m e) e b ∧ ∀ i j, a ≤ i → i < mid → mid ≤ j → j < b → (rot f s m e i).k ≤ (rot f s m e j).k := by
  have le1 : ∀ i j, a ≤ i → i ≤ j → j < m → (f i).k ≤ (f j).k := fun i j h h' h'' => by
    by_cases q : i = j
    · subst q; omega
    · exact s1 i j h (by omega) h''
  have le2 : ∀ i j, m ≤ i → i ≤ j → j < b → (f i).k ≤ (f j).k := fun i j h h' h'' => by
    by_cases q : i = j
    · subst q; omega
    · exact s2 i j h (by omega) h''
  have lt : ∀ i j, s ≤ i → i < m → m ≤ j → j < e → (f j).k < (f i).k := fun i j i1 i2 j1 j2 => by
    rcases hr with q | q | q
    · omega
    · omega
    · have := le1 s i (by omega) i1 i2; have := le2 j (e - 1) j1 (by omega) (by omega); omega
  have low : ∀ i j, a ≤ i → i < s → e ≤ j → j < b → (f i).k ≤ (f j).k := fun i j i1 i2 j1 j2 => by
    rcases hl with q | q | q
    · omega
    · omega
    · have := le1 i (s - 1) i1 (by omega) (by omega); have := le2 e j (by omega) j1 j2; omega
  have at0 : ∀ t, t < s → rot f s m e t = f t := fun t h => rot0 hsm hme (by omega)
  have at1 : ∀ t, s ≤ t → t < mid → rot f s m e t = f (t + (m - s)) := fun t h h' => rot1 ⟨h, by omega⟩
  have at2 : ∀ t, mid ≤ t → t < e → rot f s m e t = f (t - (e - m)) := fun t h h' => rot2 (by omega) h'
  have at3 : ∀ t, e ≤ t → rot f s m e t = f t := fun t h => rot0 hsm hme (by omega)
  refine ⟨(StP.ofRot hsm hme (fun i j i1 i2 j1 j2 => ?_)).wide hsa (by omega) heb, ?_, ?_, ?_, ?_, ?_⟩
  · have := lt i j i1 i2 j1 j2; omega
  · intro i j h h' h''; rw [at0 i (by omega), at0 j h'']; exact s1 i j h h' (by omega)
  · intro i j h h' h''; rw [at1 i h (by omega), at1 j (by omega) h'']; exact le2 _ _ (by omega) (by omega) (by omega)
  · intro i j h h' h''; rw [at2 i h (by omega), at2 j (by omega) h'']; exact le1 _ _ (by omega) (by omega) (by omega)
  · intro i j h h' h''; rw [at3 i h, at3 j (by omega)]; exact s2 i j (by omega) h' h''
  · intro i j i1 i2 j1 j2
    by_cases ci : i < s
    · rw [at0 i ci]
      by_cases cj : j < e
      · rw [at2 j j1 cj]; exact le1 _ _ i1 (by omega) (by omega)
      · rw [at3 j (by omega)]; exact low i j i1 ci (by omega) j2
    · rw [at1 i (by omega) i2]
      by_cases cj : j < e
      · rw [at2 j j1 cj]; have := lt (j - (e - m)) (i + (m - s)) (by omega) (by omega) (by omega) (by omega); omega
      · rw [at3 j (by omega)]; exact le2 _ _ (by omega) (by omega) j2
/-- Two parts, each sorted for itself behind the cut: the whole is sorted. -/
theorem join_sor {f g h : Fn} {a mid b : Nat} (h1 : a ≤ mid) (h2 : mid ≤ b) (x : StP f g a mid) (y : StP g h mid b) (sx : Sor g a mid) (sy : Sor h mid b) (c : ∀ i j, a ≤ i → i < mid → mid ≤ j → j < b → (f i).k ≤ (f j).k) :
    StP f h a b ∧ Sor h a b := by
  refine ⟨(x.wide (Nat.le_refl _) h1 h2).trans (y.wide h1 h2 (Nat.le_refl _)), fun i j hi hij hj => ?_⟩
  by_cases ci : i < mid
  · rw [y.out i (Or.inl ci)]
    by_cases cj : j < mid
    · rw [y.out j (Or.inl cj)]; exact sx i j hi hij cj
    · obtain ⟨j', j1, j2, e⟩ := y.mem (i := j) (by omega) hj
      obtain ⟨i', i1, i2, e2⟩ := x.mem hi ci
      rw [e, e2, x.out j' (Or.inr j1)]
      exact c i' j' i1 i2 j1 j2
  · exact sy i j (by omega) hij hj
/-- A step of turning two parts round: as many as the lesser has change places. -/
def swr (f : Fn) (a b n : Nat) : Fn := fun i => if a ≤ i ∧ i < a + n then f (i + (b - a)) else if b ≤ i ∧ i < b + n then f (i - (b - a)) else f i
theorem rot_left (f : Fn) {m i j : Nat} (h : j < i) (hm : i ≤ m) : rot (swr f (m - i) m j) (m - (i - j)) m (m + j) = rot f (m - i) m (m + j) := by
  funext t
  unfold rot swr
  repeat' split
  all_goals first | rfl | (congr 1; omega) | (exfalso; omega)
theorem rot_right (f : Fn) {m i j : Nat} (h : i < j) (hm : i ≤ m) : rot (swr f (m - i) (m + j - i) i) (m - i) m (m + (j - i)) = rot f (m - i) m (m + j) := by
  funext t
  unfold rot swr
  repeat' split
  all_goals first | rfl | (congr 1; omega) | (exfalso; omega)
theorem rot_same (f : Fn) {m i : Nat} (hm : i ≤ m) : swr f (m - i) m i = rot f (m - i) m (m + i) := by
  funext t
  unfold rot swr
  repeat' split
  all_goals first | rfl | (congr 1; omega) | (exfalso; omega)
/-- Two places are exchanged. -/
def xch (f : Fn) (i j : Nat) : Fn := fun t => if t = i then f j else if t = j then f i else f t
theorem swr_zero (f : Fn) (a b : Nat) : swr f a b 0 = f := by
  funext t; unfold swr; rw [if_neg (by omega), if_neg (by omega)]
theorem swr_next (f : Fn) {a b n : Nat} (h : a + n < b) : xch (swr f a b n) (a + n) (b + n) = swr f a b (n + 1) := by
  funext t
  unfold xch swr
  repeat' split
  all_goals first | rfl | (congr 1; omega) | (exfalso; omega)
theorem rot_up (f : Fn) {a k : Nat} (h : a ≤ k) : xch (rot f a (a + 1) (k + 1)) k (k + 1) = rot f a (a + 1) (k + 1 + 1) := by
  funext t
  unfold xch rot
  repeat' split
  all_goals first | rfl | (congr 1; omega) | (exfalso; omega)
theorem rot_down (f : Fn) {k m : Nat} (h : k + 1 ≤ m) : xch (rot f (k + 1) m (m + 1)) (k + 1) k = rot f k m (m + 1) := by
  funext t
  unfold xch rot
  repeat' split
  all_goals first | rfl | (congr 1; omega) | (exfalso; omega)
/-- The first places turned round, up to i. -/
def rvs (f : Fn) (n i : Nat) : Fn := fun t => if t < i ∨ (n - i ≤ t ∧ t < n) then f (n - 1 - t) else f t
theorem rvs_next (f : Fn) {n i : Nat} (h : i < n - 1 - i) : xch (rvs f n i) i (n - 1 - i) = rvs f n (i + 1) := by
  funext t
  unfold xch rvs
  repeat' split
  all_goals first | rfl | (congr 1; omega) | (exfalso; omega)
theorem rvs_zero (f : Fn) (n : Nat) : rvs f n 0 = f := by
  funext t; unfold rvs; rw [if_neg (by omega)]
theorem rvs_end (f : Fn) {n i : Nat} (h : ¬ i < n - 1 - i) (hi : i ≤ n) (t : Nat) (ht : t < n) : rvs f n i t = f (n - 1 - t) := by
  unfold rvs
  split
  · rfl
  · congr 1; omega
end Go.Proofs.Ytlmkcakmeldfeaa.Q
namespace Go.Proofs.Ytlmkcakmeldfeaa.Q
set_option maxRecDepth 100000
open Go.RowKit
open Go.Deep
/-- Which of two is the lesser one. -/
def cpI (x y : Int) : Int := if x < y then -1 else if y < x then 1 else 0
theorem cpI_lt {x y : Int} : cpI x y < 0 ↔ x < y := by unfold cpI; split <;> (try split) <;> omega
theorem cpI_eq {x y : Int} : cpI x y = 0 ↔ x = y := by unfold cpI; split <;> (try split) <;> omega
theorem nan_any (x : Int) (w : World) : Calls Try.prog 69 #[.int .u64 x] w fun o w' => o = .returned (.bool false) ∧ w' = w := by
  go_enter Try.func69, Try.ntmps69
  go_wp2
  go_ret
  exact ⟨by simp, rfl⟩
theorem cmp_any (x y : Int) (w : World) : Calls Try.prog 70 #[.int .u64 x, .int .u64 y] w fun o w' => o = .returned (.int .i64 (cpI x y)) ∧ Kept [] w w' := by
  unfold cpI
  by_cases h1 : x < y
  · rw [if_pos h1]
    go_enter Try.func70, Try.ntmps70
    go_wp2_with (go_at_call 69; refine (nan_any _ _).mono ?_; rintro o w1 ⟨rfl, rfl⟩)
    go_ret
    exact ⟨rfl, Kept.refl _ _⟩
  · rw [if_neg h1]
    by_cases h2 : y < x
    · rw [if_pos h2]
      go_enter Try.func70, Try.ntmps70
      go_wp2_with (go_at_call 69; refine (nan_any _ _).mono ?_; rintro o w1 ⟨rfl, rfl⟩)
      go_ret
      exact ⟨rfl, Kept.refl _ _⟩
    · rw [if_neg h2]
      go_enter Try.func70, Try.ntmps70
      go_wp2_with (go_at_call 69; refine (nan_any _ _).mono ?_; rintro o w1 ⟨rfl, rfl⟩)
      go_ret
      exact ⟨rfl, Kept.refl _ _⟩
theorem against_any (p : Pr) (k : Int) (w : World) : Calls Try.prog 66 #[.agg #[.int .u64 p.k, .int .u64 p.v], .int .u64 k] w fun o w' => o = .returned (.int .i64 (cpI p.k k)) ∧ Kept [] w w' := by
  have K : Kept [] w (w.alloc (.cells #[.int .u64 p.k, .int .u64 p.v] 56)) := (Kept.refl _ _).alloc _
  have hc := cmp_any p.k k (w.alloc (.cells #[.int .u64 p.k, .int .u64 p.v] 56))
  generalize cpI p.k k = c at hc ⊢
  go_enter Try.func66, Try.ntmps66
  go_wp2_with fail
  refine hc.mono ?_
  rintro o w1 ⟨rfl, K1⟩
  go_wp2
  go_ret
  exact ⟨rfl, K.trans K1⟩
end Go.Proofs.Ytlmkcakmeldfeaa.Q
namespace Go.Proofs.Ytlmkcakmeldfeaa.Q
set_option maxRecDepth 100000
open Go.RowKit
open Go.Deep
/-- The row g holds, from its place 0 on, these n pairs. -/
def RF (w : World) (g n : Nat) (f : Fn) : Prop := ∃ cur : Array Value, w.heap[g]? = some (.cells cur 56 (0, 0)) ∧ ∀ i, i < n → cur[i * 2]? = some (.int .u64 (f i).k) ∧ cur[i * 2 + 1]? = some (.int .u64 (f i).v)
theorem RF.lt {w : World} {g n : Nat} {f : Fn} (h : RF w g n f) : g < w.heap.size := by obtain ⟨c, h, _⟩ := h; exact lt_of_blk h
theorem RF.kept {l : List Nat} {w w' : World} {g n : Nat} {f : Fn} (h : RF w g n f) (k : Kept l w w') (hn : g ∉ l) : RF w' g n f := by
  obtain ⟨c, h, h2⟩ := h; exact ⟨c, k.blk h hn, h2⟩
theorem RF.new {w w' : World} {g n : Nat} {f : Fn} (h : RF w g n f) (k : Kept [] w w') : RF w' g n f := h.kept k (by simp)
theorem RF.free {w : World} {g n : Nat} {f : Fn} (h : RF w g n f) (i : Nat) : w.frozen? ⟨g, i, none⟩ = false := by obtain ⟨c, h, _⟩ := h; exact free_of_blk h i
theorem RF.c0 {w : World} {g n : Nat} {f : Fn} (h : RF w g n f) {i : Nat} (hi : i < n) : w.cell? ⟨g, i * 2, none⟩ = some (.int .u64 (f i).k) := by
  obtain ⟨c, h, h2⟩ := h; exact cell_of_blk h (h2 i hi).1
theorem RF.c1 {w : World} {g n : Nat} {f : Fn} (h : RF w g n f) {i : Nat} (hi : i < n) : w.cell? ⟨g, i * 2 + 1, none⟩ = some (.int .u64 (f i).v) := by
  obtain ⟨c, h, h2⟩ := h; exact cell_of_blk h (h2 i hi).2
theorem RF.ext {w : World} {g n : Nat} {f f' : Fn} (h : RF w g n f) (he : ∀ i, i < n → f' i = f i) : RF w g n f' := by
  obtain ⟨c, h, h2⟩ := h; exact ⟨c, h, fun i hi => by rw [he i hi]; exact h2 i hi⟩
def upd (f : Fn) (i : Nat) (p : Pr) : Fn := fun t => if t = i then p else f t
theorem RF.put {w : World} {g n : Nat} {f : Fn} (h : RF w g n f) {i : Nat} (hi : i < n) (p : Pr) : RF ((w.setCell ⟨g, i * 2, none⟩ (.int .u64 p.k)).setCell ⟨g, i * 2 + 1, none⟩ (.int .u64 p.v)) g n (upd f i p) := by
  obtain ⟨c, h, h2⟩ := h
  refine ⟨_, blk_set (blk_set h _ _) _ _, fun t ht => ?_⟩
  have l0 := (Array.getElem?_eq_some_iff.1 (h2 i hi).1).1
  have l1 := (Array.getElem?_eq_some_iff.1 (h2 i hi).2).1
  unfold upd
  by_cases e : t = i
  · subst e
    rw [if_pos rfl]
    constructor
    · rw [Array.getElem?_setIfInBounds_ne (by omega), Array.getElem?_setIfInBounds_self_of_lt l0]
    · rw [Array.getElem?_setIfInBounds_self_of_lt (by simpa using l1)]
  · rw [if_neg e]
    constructor
    · rw [Array.getElem?_setIfInBounds_ne (by omega), Array.getElem?_setIfInBounds_ne (by omega)]; exact (h2 t ht).1
    · rw [Array.getElem?_setIfInBounds_ne (by omega), Array.getElem?_setIfInBounds_ne (by omega)]; exact (h2 t ht).2
theorem upd_xch (f : Fn) (i j : Nat) : upd (upd f i (f j)) j (f i) = xch f i j := by
  funext t; unfold upd xch
  by_cases h : t = j
  · subst h; rw [if_pos rfl]; by_cases h2 : t = i
    · subst h2; rw [if_pos rfl]
    · rw [if_neg h2, if_pos rfl]
  · rw [if_neg h]; by_cases h2 : t = i
    · rw [if_pos h2, if_pos h2]
    · rw [if_neg h2, if_neg h2, if_neg h]
theorem RF.xch {w : World} {g n : Nat} {f : Fn} (h : RF w g n f) {i j : Nat} (hi : i < n) (hj : j < n) {p q : Pr} (hp : f j = p) (hq : f i = q) :
    RF ((((w.setCell ⟨g, i * 2, none⟩ (.int .u64 p.k)).setCell ⟨g, i * 2 + 1, none⟩ (.int .u64 p.v)).setCell ⟨g, j * 2, none⟩ (.int .u64 q.k)).setCell ⟨g, j * 2 + 1, none⟩ (.int .u64 q.v)) g n (xch f i j) := by
  subst hp hq; rw [← upd_xch]; exact (h.put hi _).put hj _
theorem Kept.put4 {w : World} {g : Nat} {a b c d : Nat} {x y z u : Value} : Kept [g] w ((((w.setCell ⟨g, a, none⟩ x).setCell ⟨g, b, none⟩ y).setCell ⟨g, c, none⟩ z).setCell ⟨g, d, none⟩ u) :=
  ((((Kept.refl [g] w).setCell (p := ⟨g, a, none⟩) (Or.inl (by simp)) x).setCell (p := ⟨g, b, none⟩) (Or.inl (by simp)) y).setCell (p := ⟨g, c, none⟩) (Or.inl (by simp)) z).setCell (p := ⟨g, d, none⟩) (Or.inl (by simp)) u
theorem RF.drew {w : World} {g n : Nat} {f : Fn} (h : RF w g n f) : RF w.drew g n f := h
end Go.Proofs.Ytlmkcakmeldfeaa.Q
namespace Go.Proofs.Ytlmkcakmeldfeaa.Q
set_option maxRecDepth 100000
open Go.RowKit
open Go.Deep
theorem Kept.of_kw {l : List Nat} {w0 w : World} (K : Kept l w0 w) (p : KW w) : Kept l w0 p.val := K.then p.kept (by simp)
theorem rot_none (f : Fn) (i : Nat) : rot f i i (i + 1) = f := by
  funext t
  unfold rot
  repeat' split
  all_goals first | rfl | (congr 1; omega) | (exfalso; omega)
end Go.Proofs.Ytlmkcakmeldfeaa.Q
namespace Go.Proofs.Ytlmkcakmeldfeaa.Q
set_option maxRecDepth 100000
open Go.RowKit
open Go.Deep
theorem Sor.out {f g : Fn} {a b c d : Nat} (h : Sor f c d) (x : StP f g a b) (hb : b ≤ c) : Sor g c d := fun i j h1 h2 h3 => by
  rw [x.out i (by omega), x.out j (by omega)]; exact h i j h1 h2 h3
theorem Sor.same {f : Fn} {a b c : Nat} (h : Sor f a b) (e : c = a) : Sor f c b := by subst e; exact h
end Go.Proofs.Ytlmkcakmeldfeaa.Q
namespace Go.Proofs.Ytlmkcakmeldfeaa.Q
set_option maxRecDepth 100000
open Go.RowKit
open Go.Deep
/-- From a on, parts of s places each are sorted. -/
inductive Runs (f : Fn) (s n : Nat) : Nat → Prop
  | done {a : Nat} : n ≤ a → Runs f s n a
  | more {a : Nat} : a < n → Sor f a (min (a + s) n) → Runs f s n (a + s) → Runs f s n a
theorem Runs.head {f : Fn} {s n a : Nat} (h : Runs f s n a) (ha : a < n) : Sor f a (min (a + s) n) ∧ Runs f s n (a + s) := by
  cases h with
  | done h => omega
  | more _ h1 h2 => exact ⟨h1, h2⟩
theorem Sor.congr {f g : Fn} {a b : Nat} (h : Sor f a b) (e : ∀ i, a ≤ i → i < b → g i = f i) : Sor g a b := fun i j h1 h2 h3 => by
  rw [e i h1 (by omega), e j (by omega) h3]; exact h i j h1 h2 h3
theorem Runs.congr {f g : Fn} {s n a : Nat} (h : Runs f s n a) (e : ∀ i, a ≤ i → i < n → g i = f i) : Runs g s n a := by
  induction h with
  | done h => exact .done h
  | more h1 h2 _ ih => exact .more h1 (h2.congr (fun i h3 h4 => e i h3 (by omega))) (ih (fun i h3 h4 => e i (by omega) h4))
/-- What is ahead of a is done, whatever comes behind it. -/
def Front (f : Fn) (s n a : Nat) : Prop := ∀ g : Fn, (∀ i, i < a → g i = f i) → Runs g s n a → Runs g s n 0
theorem Front.start (f : Fn) (s n : Nat) : Front f s n 0 := fun _ _ h => h
theorem Front.next {f g : Fn} {s n a : Nat} (h : Front f s n a) (e : ∀ i, i < a → g i = f i) (ha : a < n) (hs : Sor g a (min (a + s) n)) : Front g s n (a + s) := fun g' e' r =>
  h g' (fun i hi => (e' i (by omega)).trans (e i hi)) (.more ha (hs.congr (fun i _ h4 => e' i (by omega))) r)
theorem Runs.all {f : Fn} {s n : Nat} (h : Runs f s n 0) (hs : n ≤ s) : Sor f 0 n := by
  by_cases h0 : 0 < n
  · have := (h.head h0).1; rwa [show min (0 + s) n = n by omega] at this
  · intro i j h1 h2 h3; omega
end Go.Proofs.Ytlmkcakmeldfeaa.Q
namespace Go.Proofs.Ytlmkcakmeldfeaa.Q
/-- Keys rise. -/
def Str (ps : List Pr) : Prop := ps.Pairwise (fun a b => a.k < b.k)
def blw (ps : List Pr) (k : Int) : List Pr := ps.filter (fun q => decide (q.k < k))
def abv (ps : List Pr) (k : Int) : List Pr := ps.filter (fun q => decide (k < q.k))
def nbl (ps : List Pr) (k : Int) : List Pr := ps.filter (fun q => decide (k ≤ q.k))
/-- The map with a pair. -/
def wi (ps : List Pr) (p : Pr) : List Pr := blw ps p.k ++ p :: abv ps p.k
/-- The map without a key. -/
def wo (ps : List Pr) (k : Int) : List Pr := blw ps k ++ abv ps k
/-- The pair of a key. -/
def fd (ps : List Pr) (k : Int) : Option Pr := ps.find? (fun q => q.k == k)
theorem mem_blw {ps : List Pr} {k : Int} {q : Pr} : q ∈ blw ps k ↔ q ∈ ps ∧ q.k < k := by simp [blw]
theorem mem_abv {ps : List Pr} {k : Int} {q : Pr} : q ∈ abv ps k ↔ q ∈ ps ∧ k < q.k := by simp [abv]
theorem mem_nbl {ps : List Pr} {k : Int} {q : Pr} : q ∈ nbl ps k ↔ q ∈ ps ∧ k ≤ q.k := by simp [nbl]
theorem Str.filter {ps : List Pr} (h : Str ps) (p : Pr → Bool) : Str (ps.filter p) := List.Pairwise.filter p h
theorem Str.wi {ps : List Pr} (h : Str ps) (p : Pr) : Str (wi ps p) := by
  unfold Q.wi Str
  rw [List.pairwise_append]
  refine ⟨h.filter _, ?_, ?_⟩
  · rw [List.pairwise_cons]; exact ⟨fun q hq => (mem_abv.1 hq).2, h.filter _⟩
  · intro x hx y hy
    have h1 := (mem_blw.1 hx).2
    rcases List.mem_cons.1 hy with rfl | hy
    · exact h1
    · have := (mem_abv.1 hy).2; omega
theorem Str.wo {ps : List Pr} (h : Str ps) (k : Int) : Str (wo ps k) := by
  unfold Q.wo Str
  rw [List.pairwise_append]
  refine ⟨h.filter _, h.filter _, fun x hx y hy => ?_⟩
  have h1 := (mem_blw.1 hx).2
  have h2 := (mem_abv.1 hy).2
  omega
theorem find_filter_same {ps : List Pr} {f : Pr → Bool} {k : Int} (h : ∀ q : Pr, q.k = k → f q = true) : (ps.filter f).find? (fun q => q.k == k) = ps.find? (fun q => q.k == k) := by
  induction ps with
  | nil => rfl
  | cons a l ih =>
    by_cases ha : a.k = k
    · rw [List.filter_cons_of_pos (h a ha)]; simp [ha]
    · by_cases hf : f a = true
      · rw [List.filter_cons_of_pos hf]; simp [ha, ih]
      · rw [List.filter_cons_of_neg hf]; simp [ha, ih]
theorem find_filter_none {ps : List Pr} {f : Pr → Bool} {k : Int} (h : ∀ q : Pr, q.k = k → f q = false) : (ps.filter f).find? (fun q => q.k == k) = none := by
  rw [List.find?_eq_none]
  intro x hx hk
  rw [beq_iff_eq] at hk
  have := (List.mem_filter.1 hx).2
  rw [h x hk] at this; cases this
theorem fd_wi (ps : List Pr) (p : Pr) (k : Int) : fd (wi ps p) k = if p.k = k then some p else fd ps k := by
  unfold fd wi blw abv
  rw [List.find?_append]
  by_cases h : p.k = k
  · rw [if_pos h, find_filter_none (by intro q hq; simp; omega)]
    simp [h]
  · rw [if_neg h, List.find?_cons_of_neg (by simpa using h)]
    by_cases h2 : k < p.k
    · rw [find_filter_same (by intro q hq; simp; omega), find_filter_none (f := fun q => decide (p.k < q.k)) (by intro q hq; simp; omega)]
      simp
    · rw [find_filter_none (by intro q hq; simp; omega), find_filter_same (f := fun q => decide (p.k < q.k)) (by intro q hq; simp; omega)]
      simp
theorem fd_wo (ps : List Pr) (j k : Int) : fd (wo ps j) k = if j = k then none else fd ps k := by
  unfold fd wo blw abv
  rw [List.find?_append]
  by_cases h : j = k
  · rw [if_pos h, find_filter_none (by intro q hq; simp; omega), find_filter_none (by intro q hq; simp; omega)]; rfl
  · rw [if_neg h]
    by_cases h2 : k < j
    · rw [find_filter_same (by intro q hq; simp; omega), find_filter_none (f := fun q => decide (j < q.k)) (by intro q hq; simp; omega)]
      simp
    · rw [find_filter_none (by intro q hq; simp; omega), find_filter_same (f := fun q => decide (j < q.k)) (by intro q hq; simp; omega)]
      simp
theorem Str.fd_mem {ps : List Pr} (h : Str ps) {x : Pr} (hx : x ∈ ps) : fd ps x.k = some x := by
  induction ps with
  | nil => cases hx
  | cons a l ih =>
    rw [Str, List.pairwise_cons] at h
    unfold fd
    rcases List.mem_cons.1 hx with rfl | hx
    · simp
    · have := h.1 x hx
      rw [List.find?_cons_of_neg (by simp; omega)]
      exact ih h.2 hx
theorem fd_some {ps : List Pr} {k : Int} {x : Pr} (h : fd ps k = some x) : x ∈ ps ∧ x.k = k := by
  unfold fd at h
  exact ⟨List.mem_of_find?_eq_some h, by have := List.find?_some h; simpa using this⟩
theorem Str.ext_mem : ∀ {a b : List Pr}, Str a → Str b → (∀ x, x ∈ a ↔ x ∈ b) → a = b
  | [], [], _, _, _ => rfl
  | [], y :: b, _, _, h => by have := (h y).2 (by simp); cases this
  | x :: a, [], _, _, h => by have := (h x).1 (by simp); cases this
  | x :: a, y :: b, ha, hb, h => by
    rw [Str, List.pairwise_cons] at ha hb
    have e : x = y := by
      have h1 := (h x).1 (by simp)
      have h2 := (h y).2 (by simp)
      rcases List.mem_cons.1 h1 with e | e
      · exact e
      · rcases List.mem_cons.1 h2 with e2 | e2
        · exact e2.symm
        · have := hb.1 x e; have := ha.1 y e2; omega
    subst e
    congr 1
    refine Str.ext_mem ha.2 hb.2 (fun z => ⟨fun hz => ?_, fun hz => ?_⟩)
    · rcases List.mem_cons.1 ((h z).1 (List.mem_cons_of_mem _ hz)) with e | e
      · subst e; have := ha.1 z hz; omega
      · exact e
    · rcases List.mem_cons.1 ((h z).2 (List.mem_cons_of_mem _ hz)) with e | e
      · subst e; have := hb.1 z hz; omega
      · exact e
theorem Str.ext {a b : List Pr} (ha : Str a) (hb : Str b) (h : ∀ k, fd a k = fd b k) : a = b :=
  ha.ext_mem hb (fun x => ⟨fun hx => (fd_some (by rw [← h, ha.fd_mem hx])).1, fun hx => (fd_some (by rw [h, hb.fd_mem hx])).1⟩)
/-- The map with these pairs, one behind the other. -/
def mapOf (l : List Pr) : List Pr := l.foldl wi []
theorem mapOf_snoc (l : List Pr) (p : Pr) : mapOf (l ++ [p]) = wi (mapOf l) p := by simp [mapOf]
theorem foldl_str : ∀ (l a : List Pr), Str a → Str (l.foldl wi a)
  | [], _, h => h
  | p :: l, _, h => foldl_str l _ (h.wi p)
theorem mapOf_str (l : List Pr) : Str (mapOf l) := foldl_str l [] List.Pairwise.nil
theorem foldl_fd : ∀ (l a : List Pr) (k : Int), fd (l.foldl wi a) k = (l.reverse.find? (fun q => q.k == k)).or (fd a k)
  | [], a, k => by simp
  | p :: l, a, k => by
    rw [List.foldl_cons, foldl_fd l _ k, fd_wi, List.reverse_cons, List.find?_append]
    by_cases h : p.k = k
    · simp [h]
    · simp [h]
theorem mapOf_fd (l : List Pr) (k : Int) : fd (mapOf l) k = l.reverse.find? (fun q => q.k == k) := by
  unfold mapOf; rw [foldl_fd]; simp [fd]
/-- Of pairs whose keys rise, these are the map. -/
theorem mapOf_self {ps : List Pr} (h : Str ps) : mapOf ps = ps := by
  refine (mapOf_str ps).ext h (fun k => ?_)
  rw [mapOf_fd]
  cases e : fd ps k with
  | none =>
    unfold fd at e
    rw [List.find?_eq_none] at e ⊢
    intro x hx; exact e x (by simpa using hx)
  | some x =>
    obtain ⟨h1, h2⟩ := fd_some e
    cases e2 : ps.reverse.find? (fun q => q.k == k) with
    | none => rw [List.find?_eq_none] at e2; exact absurd (by simp [h2]) (e2 x (by simpa using h1))
    | some y =>
      have m1 := List.mem_of_find?_eq_some e2
      have m2 := List.find?_some e2
      rw [List.mem_reverse] at m1
      rw [beq_iff_eq] at m2
      have f1 := h.fd_mem m1
      rw [m2, e] at f1
      exact f1.symm
/-- Which of the first places are kept: those that differ from the one ahead. -/
def kpB (f : Fn) (i : Nat) : Bool := i == 0 || !((f i).k == (f (i - 1)).k)
def kp (f : Fn) (t : Nat) : List Pr := ((List.range t).filter (kpB f)).map f
theorem kp_succ (f : Fn) (t : Nat) : kp f (t + 1) = kp f t ++ (if kpB f t then [f t] else []) := by
  unfold kp
  rw [List.range_succ, List.filter_append, List.map_append]
  congr 1
  by_cases h : kpB f t = true
  · rw [List.filter_cons_of_pos h, if_pos h]; rfl
  · rw [List.filter_cons_of_neg h, if_neg h]; rfl
theorem kp_len (f : Fn) (t : Nat) : (kp f t).length ≤ t := by
  unfold kp; rw [List.length_map]; have := List.length_filter_le (kpB f) (List.range t); simpa using this
theorem kp_zero (f : Fn) : kp f 0 = [] := rfl
theorem seg_range (f : Fn) (t : Nat) : seg f 0 t = (List.range t).map f := by unfold seg; rw [List.range_eq_range']; simp
theorem kp_all {f : Fn} {t : Nat} (h : ∀ i, 0 < i → i < t → ¬ (f i).k = (f (i - 1)).k) : kp f t = seg f 0 t := by
  rw [seg_range]; unfold kp
  congr 1
  rw [List.filter_eq_self]
  intro i hi
  rw [List.mem_range] at hi
  unfold kpB
  by_cases h0 : i = 0
  · simp [h0]
  · simp [h0, h i (by omega) hi]
theorem kp_str {f : Fn} {n : Nat} (hs : Sor f 0 n) : Str (kp f n) := by
  unfold kp Str
  rw [List.pairwise_map]
  have h2 : ((List.range n).filter (kpB f)).Pairwise (· < ·) := List.Pairwise.filter _ List.pairwise_lt_range
  refine List.Pairwise.imp_of_mem (fun {i j} hi hj hij => ?_) h2
  rw [List.mem_filter, List.mem_range] at hi hj
  have h3 := hj.2
  unfold kpB at h3
  have h0 : ¬ j = 0 := by omega
  simp [h0] at h3
  have h4 := hs (j - 1) j (Nat.zero_le _) (by omega) hj.1
  by_cases e : i = j - 1
  · subst e; omega
  · have := hs i (j - 1) (Nat.zero_le _) (by omega) (by omega); omega
theorem kp_fd (f : Fn) (k : Int) : ∀ t, fd (kp f t) k = (seg f 0 t).find? (fun q => q.k == k)
  | 0 => by simp [kp, fd, seg]
  | t + 1 => by
    rw [kp_succ, seg_app f (m := t) (Nat.zero_le _) (Nat.le_succ _)]
    have e1 : seg f t (t + 1) = [f t] := by simp [seg]
    unfold fd
    rw [e1, List.find?_append, List.find?_append]
    have ih := kp_fd f k t
    unfold fd at ih
    rw [ih]
    cases e : (seg f 0 t).find? (fun q => q.k == k) with
    | some x => rfl
    | none =>
      simp only [Option.none_or]
      rw [List.find?_eq_none] at e
      by_cases hk : (f t).k = k
      · have : kpB f t = true := by
          unfold kpB
          by_cases h0 : t = 0
          · simp [h0]
          · have := e (f (t - 1)) (mem_seg.2 ⟨t - 1, Nat.zero_le _, by omega, rfl⟩)
            simp at this
            simp [h0]; omega
        rw [if_pos this]
      · split <;> simp [hk]
theorem seg_rev {f : Fn} {l : List Pr} (h : ∀ t, t < l.length → f t = l.getD (l.length - 1 - t) default) : seg f 0 l.length = l.reverse := by
  rw [seg_range]
  apply List.ext_getElem
  · simp
  · intro i h1 h2
    simp at h1
    have : l.length - 1 - i < l.length := by omega
    simp [h i h1, this]
/-- What is left of pairs that were turned round and sorted, the first of each key kept: the map with them. -/
theorem of_is {f0 f : Fn} {l : List Pr} (h : ∀ t, t < l.length → f0 t = l.getD (l.length - 1 - t) default) (hp : StP f0 f 0 l.length) (hs : Sor f 0 l.length) : kp f l.length = mapOf l := by
  refine (kp_str hs).ext (mapOf_str l) (fun k => ?_)
  rw [kp_fd, mapOf_fd, ← seg_rev h, ← List.head?_filter, ← List.head?_filter, hp.fil k]
/-- A place that parts a map by a key. -/
theorem part_at {ps : List Pr} (h : Str ps) {k : Int} {i : Nat} (hi : i ≤ ps.length) (hl : i = 0 ∨ (ps.getD (i - 1) default).k < k) (hr : i = ps.length ∨ k ≤ (ps.getD i default).k) :
    ps.take i = blw ps k ∧ ps.drop i = nbl ps k := by
  have g : ∀ a b (_ : a < b) (hb : b < ps.length), (ps.getD a default).k < (ps.getD b default).k := fun a b hab hb => by
    have := List.pairwise_iff_getElem.1 h a b (by omega) hb hab
    simpa [hb, (by omega : a < ps.length)] using this
  have lo : ∀ x ∈ ps.take i, x.k < k := fun x hx => by
    obtain ⟨j, hj, rfl⟩ := List.mem_iff_getElem.1 hx
    simp at hj
    have e : ps.getD j default = (ps.take i)[j]'(by simpa using hj) := by simp [(by omega : j < ps.length)]
    rw [← e]
    rcases hl with q | q
    · omega
    · by_cases e2 : j = i - 1
      · rw [e2]; exact q
      · have := g j (i - 1) (by omega) (by omega); omega
  have hi2 : ∀ x ∈ ps.drop i, k ≤ x.k := fun x hx => by
    obtain ⟨j, hj, rfl⟩ := List.mem_iff_getElem.1 hx
    simp at hj
    have e : ps.getD (i + j) default = (ps.drop i)[j]'(by simpa using hj) := by simp [(by omega : i + j < ps.length)]
    rw [← e]
    rcases hr with q | q
    · omega
    · by_cases e2 : j = 0
      · rw [e2]; exact q
      · have := g i (i + j) (by omega) (by omega); omega
  constructor
  · unfold blw
    conv => rhs; rw [← List.take_append_drop i ps]
    rw [List.filter_append, List.filter_eq_self.2 (fun x hx => by simpa using lo x hx), List.filter_eq_nil_iff.2 (fun x hx => by have := hi2 x hx; simp; omega), List.append_nil]
  · unfold nbl
    conv => rhs; rw [← List.take_append_drop i ps]
    have e1 : (ps.take i).filter (fun q => decide (k ≤ q.k)) = [] := List.filter_eq_nil_iff.2 (fun x hx => by have := lo x hx; simp; omega)
    rw [List.filter_append, e1, List.filter_eq_self.2 (fun x hx => by simpa using hi2 x hx), List.nil_append]
theorem nbl_abv (ps : List Pr) {k : Int} (h : ∀ x ∈ ps, ¬ x.k = k) : nbl ps k = abv ps k := by
  unfold nbl abv
  apply List.filter_congr
  intro x hx
  have := h x hx
  simp; omega
theorem Str.at_key {ps : List Pr} (h : Str ps) {p : Pr} (hp : p ∈ ps) : nbl ps p.k = p :: abv ps p.k := by
  refine Str.ext_mem (h.filter _) ?_ (fun x => ?_)
  · unfold Str; rw [List.pairwise_cons]; exact ⟨fun q hq => (mem_abv.1 hq).2, h.filter _⟩
  · rw [mem_nbl, List.mem_cons, mem_abv]
    constructor
    · rintro ⟨h1, h2⟩
      by_cases e : p.k = x.k
      · left
        have f1 := h.fd_mem h1
        have f2 := h.fd_mem hp
        rw [e, f1] at f2; exact Option.some.inj f2
      · right; exact ⟨h1, by omega⟩
    · rintro (rfl | ⟨h1, h2⟩)
      · exact ⟨hp, by omega⟩
      · exact ⟨h1, by omega⟩
theorem fd_none {ps : List Pr} {k : Int} (h : fd ps k = none) : ∀ x ∈ ps, ¬ x.k = k := by
  unfold fd at h; rw [List.find?_eq_none] at h
  intro x hx; have := h x hx; simpa using this
end Go.Proofs.Ytlmkcakmeldfeaa.Q
namespace Go.Proofs.Ytlmkcakmeldfeaa.Q
set_option maxRecDepth 100000
open Go.RowKit
open Go.Deep
theorem OwnP.rf {w : World} {base : Nat} {v : Value} {es : List Pr} (h : OwnP w base 56 v es) : (v = .slice none 0 0 ∧ es = []) ∨ ∃ g cap, v = .slice (some ⟨g, 0, none⟩) es.length cap ∧ base ≤ g ∧ es.length ≤ cap ∧ RF w g es.length (fun i => es.getD i default) := by
  obtain ⟨h1, ⟨rfl, h0⟩ | ⟨g, cap, cur, rfl, hb, hg, hnc, hcm, hsz, htk⟩⟩ := h
  · exact Or.inl ⟨rfl, List.eq_nil_of_length_eq_zero h0⟩
  · refine Or.inr ⟨g, cap, rfl, hb, hnc, cur, hg, fun i hi => ?_⟩
    have e : es.getD i default = es[i] := by simp [hi]
    simp only [e]
    have q0 := fl_get es i hi 0 _ rfl
    have q1 := fl_get es i hi 1 _ rfl
    rw [← htk, List.getElem?_take] at q0 q1
    constructor
    · split at q0
      · rw [← Array.getElem?_toList]; exact q0
      · cases q0
    · split at q1
      · rw [← Array.getElem?_toList]; exact q1
      · cases q1
theorem RF.sl {w : World} {g n : Nat} {f : Fn} (h : RF w g n f) {es : List Pr} (hl : es.length ≤ n) (he : ∀ i, i < es.length → f i = es.getD i default) : SlP w (some ⟨g, 0, none⟩) es := by
  intro h0
  refine ⟨g, 0, rfl, h.lt, fun i hi j v hv => ?_⟩
  have e : es.getD i default = es[i] := by simp [hi]
  have c0 := h.c0 (i := i) (by omega)
  have c1 := h.c1 (i := i) (by omega)
  rw [he i hi, e] at c0 c1
  rw [Nat.zero_add]
  match j, hv with
  | 0, hv => cases hv; exact c0
  | 1, hv => cases hv; exact c1
theorem clone_any (ao : Option Addr) (es : List Pr) (n cap : Nat) (w : World) (hn : n = es.length) (hs : SlP w ao es) (hc : ao = none → cap = 0) (hl : n ≤ 1000) :
    Calls Try.prog 29 #[.slice ao n cap] w fun o w' => ∃ v, o = .returned v ∧ OwnP w' w.heap.size 56 v es ∧ Kept [] w w' := by
  have qn : ∀ (w : World) (a : Option Addr) (n c n' c' : Nat), (binOp .eql 33 (.slice a n c) (.slice none n' c')).run Try.prog w = .ok (.bool a.isNone) w := fun w a n c n' c' => Lib.run_eql_slice_nil w _ _ a n c n' c' Try.underlying33
  cases ao with
  | none =>
    have hy : es = [] := by
      cases es with
      | nil => rfl
      | cons a r => obtain ⟨ad, _, h, _⟩ := hs (by simp); cases h
    subst hy
    have h9 : n = 0 := hn
    subst h9
    obtain rfl := hc rfl
    clear hs hn hc
    go_enter Try.func29, Try.ntmps29
    go_wp2
    go_ret
    exact ⟨_, rfl, OwnP.nil _ _ _, Kept.refl _ _⟩
  | some ad =>
    have K : Kept [] w (w.alloc (.cells #[] 56)) := (Kept.refl _ _).alloc _
    have hown : OwnP (w.alloc (.cells #[] 56)) w.heap.size 56 (.slice (some ⟨w.heap.size, 0, none⟩) 0 0) [] := World.ownsRow_made w #[] 0 (Nat.le_refl _) (by decide) rfl
    obtain ⟨u, w1, hap, O1, K1⟩ := append_own 33 Try.underlying33 info_seq (w.alloc (.cells #[] 56)) w.heap.size _ (some ad) [] es n cap hn hown (hs.new K) (by simp) (by rw [nblk_alloc]; omega) (by simp) (by omega)
    have KK := Kept.ofOwn K hown (Nat.le_refl _) K1
    have HO : Hid _ := And.intro O1 KK
    clear O1 KK K K1 hown hn hs hc
    go_enter Try.func29, Try.ntmps29
    go_wp2_with (at_builtin; refine wpList_append_run rfl (.tmp 5) (.tmp 6) 33 rfl rfl rfl hap ?_)
    go_ret
    exact ⟨_, rfl, by have := HO.out.1; rwa [List.nil_append] at this, HO.out.2⟩
end Go.Proofs.Ytlmkcakmeldfeaa.Q
namespace Go.Proofs.Ytlmkcakmeldfeaa.Q
set_option maxRecDepth 100000
open Go.RowKit
open Go.Deep
theorem zero_pair (w : World) : (zeroValue 56).run Try.prog w = .ok (.agg #[.int .u64 0, .int .u64 0]) w := Try.zeroValue56 w
theorem clear_row (g n k cap : Nat) (f : Fn) (W : World) (h : RF W g n f) (hk : k < n) : ∃ w1, (∀ ty, (Builtin.clear_ #[33] ty #[.slice (some ⟨g, k * 2, none⟩) (n - k) cap]).run Try.prog W = .ok (.tuple #[]) w1) ∧ RF w1 g k f ∧ Kept [g] W w1 := by
  obtain ⟨cur, hg, hc⟩ := h
  have hsz : n * 2 ≤ cur.size := by
    have := (Array.getElem?_eq_some_iff.1 (hc (n - 1) (by omega)).2).1
    omega
  obtain ⟨z, hz⟩ : ∃ z, z = (Builtin.zeroCells #[.int .u64 0, .int .u64 0] (n - k)).toList := ⟨_, rfl⟩
  have hl : z.length = (n - k) * 2 := by rw [hz]; simp [Builtin.zeroCells]
  have h1 : ∀ v ∈ z, v.oneCell' = true := by
    intro v hv
    rw [hz] at hv
    simp [Builtin.zeroCells] at hv
    obtain ⟨i, hi, rfl⟩ := hv
    have : i % 2 = 0 ∨ i % 2 = 1 := by omega
    rcases this with e | e <;> rw [e] <;> rfl
  have hrun := run_storeCells_at (P := Try.prog) g (k * 2) 56 z 0 cur W hg (by rw [hl]; omega) h1
  refine ⟨W.setRow g (cur.toList.take (k * 2 + 0) ++ z ++ cur.toList.drop (k * 2 + 0 + z.length)).toArray, fun ty => ?_, ?_, ?_⟩
  · obtain ⟨nk, hnk⟩ : ∃ nk, n - k = nk + 1 := ⟨n - k - 1, by omega⟩
    rw [hnk] at hz ⊢
    have hu := run_underlying (P := Try.prog) Try.underlying33
    have hzv := zero_pair
    simp [Builtin.clear_, hu, hzv, Value.cells, ← hz, hrun, Result.andThen]
  · refine ⟨_, setRow_heap W g cur _ _ _ hg, fun i hi => ?_⟩
    have := hc i (by omega)
    constructor
    · rw [List.getElem?_toArray, Nat.add_zero, List.append_assoc, List.getElem?_append_left (by simp; omega), List.getElem?_take, if_pos (by omega), Array.getElem?_toList]; exact this.1
    · rw [List.getElem?_toArray, Nat.add_zero, List.append_assoc, List.getElem?_append_left (by simp; omega), List.getElem?_take, if_pos (by omega), Array.getElem?_toList]; exact this.2
  · exact ⟨rfl, rfl, rfl, by simp, fun j hj hn => setRow_other W g j _ (by simpa using hn)⟩
theorem seg_getD (f : Fn) {n i : Nat} (h : i < n) : (seg f 0 n).getD i default = f i := by rw [seg_range]; simp [h]
/-- What is kept of the first t places lies at the row's begin; from t - 1 on it is as it was. -/
def Cmp (f h : Fn) (t k : Nat) : Prop := k = (kp f t).length ∧ (∀ i, i < k → h i = (kp f t).getD i default) ∧ ∀ i, t - 1 ≤ i → h i = f i
theorem getD_left {a b : List Pr} {i : Nat} (h : i < a.length) : (a ++ b).getD i default = a.getD i default := by simp [List.getElem?_append_left h]
theorem Cmp.skip {f h : Fn} {t k : Nat} (c : Cmp f h t k) (ht : 0 < t) (e : (f t).k = (f (t - 1)).k) : Cmp f h (t + 1) k := by
  have hb : kpB f t = false := by unfold kpB; simp [e]; omega
  have hk : kp f (t + 1) = kp f t := by rw [kp_succ, hb]; simp
  unfold Cmp; rw [hk]
  exact ⟨c.1, c.2.1, fun i hi => c.2.2 i (by omega)⟩
theorem Cmp.keep {f h : Fn} {t k : Nat} (c : Cmp f h t k) (hk : k < t) (e : ¬ (f t).k = (f (t - 1)).k) : Cmp f (upd h k (f t)) (t + 1) (k + 1) := by
  have hb : kpB f t = true := by unfold kpB; simp [e]
  have hk2 : kp f (t + 1) = kp f t ++ [f t] := by rw [kp_succ, hb]; simp
  unfold Cmp; rw [hk2]
  refine ⟨by rw [List.length_append, c.1]; rfl, fun i hi => ?_, fun i hi => ?_⟩
  · unfold upd
    by_cases q : i = k
    · subst q; rw [if_pos rfl, c.1]; simp
    · rw [if_neg q, getD_left (by rw [← c.1]; omega)]; exact c.2.1 i (by omega)
  · unfold upd; rw [if_neg (by omega)]; exact c.2.2 i (by omega)
end Go.Proofs.Ytlmkcakmeldfeaa.Q
namespace Go.Proofs.Ytlmkcakmeldfeaa.Q
set_option maxRecDepth 100000
open Go.RowKit
open Go.Deep
/-- What a map is: a slice of its pairs. -/
def MpV (w : World) (ao : Option Addr) (n cap : Nat) (ps : List Pr) : Prop := n = ps.length ∧ SlP w ao ps ∧ n ≤ cap ∧ (ao = none → cap = 0)
theorem MpV.new {w w' : World} {ao : Option Addr} {n cap : Nat} {ps : List Pr} (h : MpV w ao n cap ps) (k : Kept [] w w') : MpV w' ao n cap ps := ⟨h.1, h.2.1.new k, h.2.2⟩
theorem MpV.nil (w : World) : MpV w none 0 0 [] := ⟨rfl, SlP.nil _ _, Nat.le_refl _, fun _ => rfl⟩
theorem mapOf_len (l : List Pr) : (mapOf l).length ≤ l.length := by
  have h : ∀ (l a : List Pr), (l.foldl wi a).length ≤ a.length + l.length := by
    intro l
    induction l with
    | nil => intro a; simp
    | cons p l ih =>
      intro a
      rw [List.foldl_cons]
      have h1 := ih (wi a p)
      have h2 : (wi a p).length ≤ a.length + 1 := by
        unfold wi blw abv
        rw [List.length_append, List.length_cons]
        have : ∀ a : List Pr, (a.filter (fun q => decide (q.k < p.k))).length + (a.filter (fun q => decide (p.k < q.k))).length ≤ a.length := by
          intro a
          induction a with
          | nil => simp
          | cons x a ih =>
            rw [List.filter_cons, List.filter_cons]
            have e1 : decide (x.k < p.k) = true → decide (p.k < x.k) = false := by simp; omega
            split
            · rename_i q; rw [e1 q]; simp; omega
            · split <;> simp <;> omega
        have := this a; omega
      simp at h1 ⊢; omega
  have := h l []; simpa [mapOf] using this
theorem pairs_any (ao : Option Addr) (es : List Pr) (n cap : Nat) (w : World) (h : MpV w ao n cap es) (hl : n ≤ 1000) :
    Calls Try.prog 17 #[.agg #[.slice ao n cap]] w fun o w' => ∃ bo cb, o = .returned (.slice bo n cb) ∧ MpV w' bo n cb es ∧ Kept [] w w' := by
  have K0 : Kept [] w (w.alloc (.cells #[.slice ao n cap] 35)) := (Kept.refl _ _).alloc _
  have hc := clone_any ao es n cap _ h.1 (h.2.1.new K0) h.2.2.2 hl
  have HN : Hid _ := h.1
  clear h
  go_enter Try.func17, Try.ntmps17
  go_wp2_with fail
  refine hc.mono ?_
  rintro o w1 ⟨v, rfl, O1, K1⟩
  obtain ⟨bo, cb, rfl, S1, l1, l2⟩ := O1.shape
  rw [← HN.out] at l1 ⊢
  clear hc O1
  go_wp2
  go_ret
  exact ⟨bo, cb, rfl, ⟨HN.out, S1, l1, l2⟩, K0.trans K1⟩
end Go.Proofs.Ytlmkcakmeldfeaa.Q
