/-
  Pairs: two words each; slices of them; rows of them that 'append' has made.
-/
import Derived.Test.YtapbkonfjieadaaOwn
import Derived.Deep.AppendLies
import Derived.Deep.RegionHeld3
import Derived.Deep.Cut
import Derived.Deep.Upon
import Derived.ArgAppend
namespace Go.Proofs.Ytapbkonfjieadaa.Q
set_option maxRecDepth 100000
open Go.ChangeShapes Go.WideShapes Go.ChangeAt Go.RowKit
open Go.Deep
/-- A pair: a key, its value. -/
structure Pr where
  k : Int
  v : Int
deriving DecidableEq
instance : Inhabited Pr := ⟨⟨0, 0⟩⟩
def pC (p : Pr) : List Value := [.int .u64 p.k, .int .u64 p.v]
def fl : List Pr → List Value
  | [] => []
  | e :: l => pC e ++ fl l
theorem fl_len : ∀ l : List Pr, (fl l).length = l.length * 2
  | [] => rfl
  | e :: l => by rw [fl, List.length_append, fl_len l, List.length_cons]; simp [pC]; omega
theorem fl_app : ∀ a b : List Pr, fl (a ++ b) = fl a ++ fl b
  | [], _ => rfl
  | e :: a, b => by rw [List.cons_append, fl, fl, fl_app a b, List.append_assoc]
theorem fl_get : ∀ (l : List Pr) (i : Nat) (h : i < l.length) (j : Nat) (v : Value), (pC l[i])[j]? = some v → (fl l)[i * 2 + j]? = some v
  | [], i, h, _, _, _ => absurd h (by simp)
  | e :: l, 0, _, j, v, hv => by
    have hv' : (pC e)[j]? = some v := hv
    rw [fl, Nat.zero_mul, Nat.zero_add, List.getElem?_append_left (List.getElem?_eq_some_iff.1 hv').1]; exact hv'
  | e :: l, i + 1, h, j, v, hv => by
    rw [fl, List.getElem?_append_right (by simp [pC]; omega)]
    have := fl_get l i (by simpa using h) j v (by simpa using hv)
    rw [← this]; congr 1; simp [pC]; omega
theorem fl_one (l : List Pr) : ∀ u ∈ fl l, u.oneCell' = true := by
  induction l with
  | nil => simp [fl]
  | cons e l ih => intro u hu; rw [fl, List.mem_append] at hu; rcases hu with hu | hu; · simp [pC] at hu; rcases hu with rfl | rfl <;> rfl
                   · exact ih u hu
/-- A slice of pairs, wherever it lies. -/
abbrev SlP := SlOf 2 pC
theorem SlP.row {w : World} {ao : Option Addr} {es : List Pr} (h : SlP w ao es) {k : Nat} (hk : k < es.length) :
    ∃ b off, ao = some ⟨b, off, none⟩ ∧ b < w.heap.size ∧ w.cell? ⟨b, off + k * 2, none⟩ = some (.int .u64 (es.getD k default).k) ∧ w.cell? ⟨b, off + k * 2 + 1, none⟩ = some (.int .u64 (es.getD k default).v) := by
  obtain ⟨b, off, rfl, hb, hc⟩ := h (by omega)
  have e : es.getD k default = es[k] := by simp [hk]
  rw [e]
  exact ⟨b, off, rfl, hb, hc k hk 0 _ rfl, hc k hk 1 _ rfl⟩
theorem SlP.nil (w : World) (ao : Option Addr) : SlP w ao [] := fun h => absurd h (by simp)
/-- The cells of a slice of pairs. -/
theorem SlP.cells {w : World} {ad : Addr} {es : List Pr} (h : SlP w (some ad) es) : ∀ j v, (fl es)[j]? = some v → w.cell? (ad.add j) = some v := by
  intro j v hv
  have hj : j < es.length * 2 := by rw [← fl_len]; exact (List.getElem?_eq_some_iff.1 hv).1
  obtain ⟨b, off, he, hb, hc⟩ := h (by omega)
  cases he
  have hi : j / 2 < es.length := by omega
  rw [add_plain]
  have e : j = j / 2 * 2 + j % 2 := by omega
  have h2 : (pC es[j / 2])[j % 2]? = some v := by
    have hlt : j % 2 < (pC es[j / 2]).length := by simp [pC]; omega
    have := fl_get es (j / 2) hi (j % 2) _ (List.getElem?_eq_getElem hlt)
    rw [← e, hv] at this
    rw [List.getElem?_eq_getElem hlt]; exact this.symm
  have := hc (j / 2) hi (j % 2) v h2
  rwa [Nat.add_assoc, ← e] at this
theorem SlP.take {w : World} {ao : Option Addr} {es : List Pr} (h : SlP w ao es) (n : Nat) : SlP w ao (es.take n) := by
  intro h0
  obtain ⟨b, off, rfl, hb, hc⟩ := h (by simp at h0; omega)
  refine ⟨b, off, rfl, hb, fun i hi j v hv => hc i (by simp at hi; omega) j v (by simpa using hv)⟩
/-- A part of a slice that begins at its place n. -/
theorem SlP.drop {w : World} {b off : Nat} {es : List Pr} (h : SlP w (some ⟨b, off, none⟩) es) (n : Nat) : SlP w (some ⟨b, off + n * 2, none⟩) (es.drop n) := by
  intro h0
  obtain ⟨b', off', he, hb, hc⟩ := h (by simp at h0; omega)
  cases he
  refine ⟨b, off + n * 2, rfl, hb, fun i hi j v hv => ?_⟩
  have := hc (n + i) (by simp at hi; omega) j v (by simpa using hv)
  rw [← this]; congr 2; rw [Nat.add_mul]; omega
theorem take_next {α : Type} {l : List α} {k : Nat} (h : k < l.length) (d : α) : l.take (k + 1) = l.take k ++ [l.getD k d] := by
  rw [List.take_add_one]; simp [h]
/-- Pairs in a row of their own. -/
def OwnP (w : World) (base : Nat) (T : TypeId) (v : Value) (es : List Pr) : Prop := w.ownsRow base T 2 v es.length (fl es)
theorem OwnP.nil (w : World) (base : Nat) (T : TypeId) : OwnP w base T (.slice none 0 0) [] := ⟨rfl, Or.inl ⟨rfl, rfl⟩⟩
theorem OwnP.kept {l : List Nat} {w w' : World} {base : Nat} {T : TypeId} {v : Value} {es : List Pr} (h : OwnP w base T v es) (k : Kept l w w') (hn : ∀ g, v.ownBlock = some g → g ∉ l) : OwnP w' base T v es := by
  obtain ⟨h1, h2 | ⟨g, cap, cur, rfl, hb, hg, hr⟩⟩ := h
  · exact ⟨h1, Or.inl h2⟩
  · exact ⟨h1, Or.inr ⟨g, cap, cur, rfl, hb, k.blk hg (hn g rfl), hr⟩⟩
theorem OwnP.new {w w' : World} {base : Nat} {T : TypeId} {v : Value} {es : List Pr} (h : OwnP w base T v es) (k : Kept [] w w') : OwnP w' base T v es := h.kept k (by simp)
theorem OwnP.base {w : World} {b T : Nat} {v : Value} {es : List Pr} (h : OwnP w b T v es) : ∀ g, v.ownBlock = some g → b ≤ g ∧ g < w.heap.size := World.ownsRow.lt h
theorem own_cell {w : World} {g : Nat} {T : TypeId} {cur : Array Value} {es : List Pr} {n : Nat} (hg : w.heap[g]? = some (.cells cur T (0, 0))) (hn : n = es.length) (htk : cur.toList.take (n * 2) = fl es) : SlP w (some ⟨g, 0, none⟩) es := by
  subst hn
  refine fun h0 => ⟨g, 0, rfl, lt_of_blk hg, fun i hi j v hv => ?_⟩
  rw [Nat.zero_add]
  refine cell_of_blk hg ?_
  have q := fl_get es i hi j v hv
  rw [← htk, List.getElem?_take] at q
  split at q
  · rw [← Array.getElem?_toList]; exact q
  · cases q
theorem OwnP.shape {w : World} {base : Nat} {T : TypeId} {v : Value} {es : List Pr} (h : OwnP w base T v es) : ∃ ao cap, v = .slice ao es.length cap ∧ SlP w ao es ∧ es.length ≤ cap ∧ (ao = none → cap = 0) := by
  obtain ⟨h1, ⟨rfl, h0⟩ | ⟨g, cap, cur, rfl, hb, hg, hnc, hcm, hsz, htk⟩⟩ := h
  · have : es = [] := List.eq_nil_of_length_eq_zero h0
    subst this
    exact ⟨none, 0, rfl, SlP.nil _ _, Nat.le_refl _, fun _ => rfl⟩
  · exact ⟨_, cap, rfl, own_cell hg rfl htk, hnc, by simp⟩
theorem Kept.ob {w w1 : World} {v : Value} (hg : w.grownBy w1 v.ownBlock) : Kept v.ownBlock.toList w w1 :=
  ⟨hg.os, hg.tape, hg.output, hg.size, fun k hk hn => hg.block k hk (fun e => hn (by rw [← e]; simp))⟩
/-- The layout of a type of pairs. -/
def IsP (T : TypeId) : Prop := (Try.prog.info? T).map (fun i => (i.zero, i.size, i.bytes)) = some (some (.agg #[.int .u64 0, .int .u64 0]), 2, 16)
theorem info_ref : IsP 62 := by unfold IsP; kernel_rfl
theorem info_seq : IsP 52 := by unfold IsP; kernel_rfl
/-- 'append' of one pair that a literal has just made. -/
theorem append_pair {t T : TypeId} (ty : TypeId) (ht : Try.prog.underlying t = some (.slice T)) (hinfo : IsP T)
    (w : World) (base H : Nat) (v : Value) (es : List Pr) (e : Pr) (hH : w.heap.size = H) (hR : OwnP w base T v es) (hb : base ≤ w.heap.size) (hm : es.length ≤ 100000) :
    ∃ g cap w1, (Builtin.append_ #[t, t] ty #[v, .slice (some ⟨H, 0, none⟩) 1 1]).run Try.prog (w.alloc (.cells #[.int .u64 e.k, .int .u64 e.v] T)) = .ok (.slice (some ⟨g, 0, none⟩) (es.length + 1) cap) w1 ∧
      OwnP w1 base T (.slice (some ⟨g, 0, none⟩) (es.length + 1) cap) (es ++ [e]) ∧ (v.ownBlock = some g ∨ w.heap.size ≤ g) ∧ Kept v.ownBlock.toList w w1 := by
  subst hH
  obtain ⟨i, hi, hz0, hz1, hz2⟩ := info_parts' hinfo
  have hR' := hR.new ((Kept.refl [] w).alloc (.cells #[.int .u64 e.k, .int .u64 e.v] T))
  have hnews := World.news_of_block (blk_alloc_new w (.cells #[.int .u64 e.k, .int .u64 e.v] T))
  obtain ⟨g, cap, w1, hrun, hown, hg, hat, hlt⟩ := run_append_lies (P := Try.prog) (w.alloc (.cells #[.int .u64 e.k, .int .u64 e.v] T)) t ty base T i _ 2 16 ht hi hz0 hz1 hz2 rfl (by decide) v es.length (fl es) hR' ⟨w.heap.size, 0, none⟩ 1 1 (pC e) rfl hnews
    (by intro u hu; simp [pC] at hu; rcases hu with rfl | rfl <;> rfl) (by omega) (by unfold maxLen; omega) (by omega) (by rw [nblk_alloc]; omega) _ rfl
  refine ⟨g, cap, w1, hrun, ?_, ?_, ?_⟩
  · unfold OwnP; rw [fl_app, List.length_append]; exact hown
  · rcases hat with h | h
    · exact Or.inl h
    · right; rw [h, nblk_alloc]; omega
  · exact ((Kept.refl _ w).alloc _).trans (Kept.ob hg)
/-- What was made of nothing is no block of w. -/
theorem Kept.ofOwn {w a b : World} {base T : Nat} {v : Value} {es : List Pr} (h : Kept [] w a) (o : OwnP a base T v es) (hb : w.heap.size ≤ base) (k : Kept v.ownBlock.toList a b) : Kept [] w b :=
  h.then k (by intro x hx; right; have := (o.base x (by simpa using hx)).1; omega)
theorem same_at {w w' : World} (k : Kept [] w w') {b o : Nat} {v : Value} (h : w.cell? ⟨b, o, none⟩ = some v) : w'.cell? ⟨b, o, none⟩ = some v := by
  rw [kept_cell k (lt_of_cell h)]; exact h
theorem own_pairs {w : World} {base n T : Nat} {v : Value} {xs : List Pr} (hn : n = xs.length) (h : w.ownsRow base T 2 v n (fl xs)) : OwnP w base T v xs := by subst hn; exact h
/-- 'append' of pairs to pairs that came in and have no room. -/
theorem append_full {t T : TypeId} (ty : TypeId) (ht : Try.prog.underlying t = some (.slice T)) (hinfo : IsP T) (w : World) (ao bo : Option Addr) (xs ys : List Pr) (n m cb : Nat) (hn : n = xs.length) (hm : m = ys.length) (ha : SlP w ao xs) (hb : SlP w bo ys) (hl : n ≤ 100000) (hk : m ≤ 100000) :
    ∃ co c' w1, (Builtin.append_ #[t, t] ty #[.slice ao n n, .slice bo m cb]).run Try.prog w = .ok (.slice co (n + m) c') w1 ∧ SlP w1 co (xs ++ ys) ∧ n + m ≤ c' ∧ (co = none → c' = 0) ∧ (0 < m → OwnP w1 w.heap.size T (.slice co (n + m) c') (xs ++ ys)) ∧ Kept [] w w1 := by
  obtain ⟨i, hi, hz0, hz1, hz2⟩ := info_parts' hinfo
  by_cases h0 : m = 0
  · subst h0
    have hy : ys = [] := List.eq_nil_of_length_eq_zero hm.symm
    subst hy
    have hs : Src Try.prog i.size t (.slice bo 0 cb) 0 [] w := by
      cases bo with
      | none => exact Src.ofNil w ht cb
      | some a => exact Src.ofSlice w ht a 0 cb [] (by simp) (by simp) (by simp)
    refine ⟨ao, n, w, run_append_nothing (P := Try.prog) w t t ty T i ht hi ao n n (Nat.le_refl _) _ hs, by rw [List.append_nil]; exact ha, by omega, ?_, fun h => absurd h (by omega), Kept.refl _ _⟩
    rintro rfl
    cases xs with
    | nil => simpa using hn
    | cons a r => obtain ⟨ad, _, h, _⟩ := ha (by simp); cases h
  · obtain ⟨ad, ofs, rfl, _, _⟩ := hb (by omega)
    have hnm : n + m = (xs ++ ys).length := by rw [List.length_append, hn, hm]
    have one := fl_one ys
    cases ao with
    | none =>
      have hx : xs = [] := by
        cases xs with
        | nil => rfl
        | cons a r => obtain ⟨ad, _, h, _⟩ := ha (by simp); cases h
      subst hx
      have h9 : n = 0 := hn
      subst h9
      have hown : w.ownsRow w.heap.size T 2 (.slice none 0 0) 0 [] := ⟨rfl, Or.inl ⟨rfl, rfl⟩⟩
      obtain ⟨v', w1, hrun, hown', hg, _⟩ := run_append_own (P := Try.prog) w w.heap.size t ty T i _ 2 16 ht hi hz0 hz1 hz2 rfl (by decide) _ 0 [] hown _ m cb (fl ys) (by rw [fl_len, hm]) hb.cells one (by unfold maxLen; omega) (by omega) (Nat.le_refl _)
      rw [List.nil_append] at hown'
      have O := own_pairs (by rw [Nat.zero_add]; exact hm) hown'
      obtain ⟨co, c', rfl, S, l1, l2⟩ := O.shape
      rw [← hm] at hrun O l1
      rw [List.nil_append, Nat.zero_add]
      exact ⟨co, c', w1, hrun, S, l1, l2, fun _ => O, ⟨hg.os, hg.tape, hg.output, hg.size, fun k hk _ => hg.block k hk (by simp [Value.ownBlock])⟩⟩
    | some b =>
      obtain ⟨v', w1, hrun, hown', hg⟩ := run_append_arg_grows (P := Try.prog) w t ty T i _ 2 16 ht hi hz0 hz1 hz2 rfl (by decide) b n n (fl xs) (by rw [fl_len, hn]) ha.cells _ m cb (fl ys) (by rw [fl_len, hm]) hb.cells (by omega) (by unfold maxLen; omega) (by omega)
      rw [← fl_app] at hown'
      have O := own_pairs hnm hown'
      obtain ⟨co, c', rfl, S, l1, l2⟩ := O.shape
      rw [← hnm] at hrun O l1
      exact ⟨co, c', w1, hrun, S, l1, l2, fun _ => O, ⟨hg.os, hg.tape, hg.output, hg.size, fun k hk _ => hg.block k hk (by simp)⟩⟩
/-- 'append' of pairs to a row of its own. -/
theorem append_own {t T : TypeId} (ty : TypeId) (ht : Try.prog.underlying t = some (.slice T)) (hinfo : IsP T) (w : World) (base : Nat) (v : Value) (bo : Option Addr) (xs ys : List Pr) (m cb : Nat) (hm : m = ys.length) (hR : OwnP w base T v xs) (hb : SlP w bo ys) (hc : bo = none → cb = 0) (hbase : base ≤ w.heap.size) (hl : xs.length ≤ 100000) (hk : m ≤ 100000) :
    ∃ u w1, (Builtin.append_ #[t, t] ty #[v, .slice bo m cb]).run Try.prog w = .ok u w1 ∧ OwnP w1 base T u (xs ++ ys) ∧ Kept v.ownBlock.toList w w1 := by
  obtain ⟨i, hi, hz0, hz1, hz2⟩ := info_parts' hinfo
  cases bo with
  | none =>
    have hy : ys = [] := by
      cases ys with
      | nil => rfl
      | cons a r => obtain ⟨ad, _, h, _⟩ := hb (by simp); cases h
    subst hy
    have h9 : m = 0 := hm
    subst h9
    obtain rfl := hc rfl
    exact ⟨v, w, run_append_owned_none (P := Try.prog) (w := w) base t ty T i 2 ht hi _ _ _ hR, by rw [List.append_nil]; exact hR, Kept.refl _ _⟩
  | some ad =>
    obtain ⟨v', w1, hrun, hown', hg, _⟩ := run_append_own (P := Try.prog) w base t ty T i _ 2 16 ht hi hz0 hz1 hz2 rfl (by decide) _ _ _ hR ad m cb (fl ys) (by rw [fl_len, hm]) hb.cells (fl_one ys) (by unfold maxLen; omega) (by omega) hbase
    rw [← fl_app] at hown'
    exact ⟨v', w1, hrun, own_pairs (by rw [List.length_append, hm]) hown', Kept.ob hg⟩
end Go.Proofs.Ytapbkonfjieadaa.Q
