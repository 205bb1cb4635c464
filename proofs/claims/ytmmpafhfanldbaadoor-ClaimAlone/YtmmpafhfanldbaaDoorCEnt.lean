/-
  Entries: three words each; slices of them; rows of them that 'append' has made of nil.
-/
import Derived.Test.YtmmpafhfanldbaaDoorOwn
import Derived.Deep.AppendLies
import Derived.Deep.RegionHeld3
import Derived.Deep.Cut
namespace Go.Proofs.YtmmpafhfanldbaaDoor
set_option maxRecDepth 100000
open Go.ChangeShapes Go.WideShapes Go.ChangeAt Go.RowKit
open Go.Deep
/-- An entry: its node, its birth, the era in which it was retired. -/
structure Ent where
  n : Int
  b : Int
  r : Int
deriving DecidableEq
instance : Inhabited Ent := ⟨⟨0, 0, 0⟩⟩
def eC (e : Ent) : List Value := [.int .u64 e.n, .int .u64 e.b, .int .u64 e.r]
def eV (e : Ent) : Value := .agg #[.int .u64 e.n, .int .u64 e.b, .int .u64 e.r]
def fl : List Ent → List Value
  | [] => []
  | e :: l => eC e ++ fl l
theorem fl_len : ∀ l : List Ent, (fl l).length = l.length * 3
  | [] => rfl
  | e :: l => by rw [fl, List.length_append, fl_len l, List.length_cons]; simp [eC]; omega
theorem fl_app : ∀ a b : List Ent, fl (a ++ b) = fl a ++ fl b
  | [], _ => rfl
  | e :: a, b => by rw [List.cons_append, fl, fl, fl_app a b, List.append_assoc]
theorem fl_get : ∀ (l : List Ent) (i : Nat) (h : i < l.length) (j : Nat) (v : Value), (eC l[i])[j]? = some v → (fl l)[i * 3 + j]? = some v
  | [], i, h, _, _, _ => absurd h (by simp)
  | e :: l, 0, _, j, v, hv => by
    have hv' : (eC e)[j]? = some v := hv
    rw [fl, Nat.zero_mul, Nat.zero_add, List.getElem?_append_left (List.getElem?_eq_some_iff.1 hv').1]; exact hv'
  | e :: l, i + 1, h, j, v, hv => by
    rw [fl, List.getElem?_append_right (by simp [eC]; omega)]
    have := fl_get l i (by simpa using h) j v (by simpa using hv)
    rw [← this]; congr 1; simp [eC]; omega
theorem fl_one (l : List Ent) : ∀ u ∈ fl l, u.oneCell' = true := by
  induction l with
  | nil => simp [fl]
  | cons e l ih => intro u hu; rw [fl, List.mem_append] at hu; rcases hu with hu | hu; · simp [eC] at hu; rcases hu with rfl | rfl | rfl <;> rfl
                   · exact ih u hu
/-- A slice of entries, wherever it lies. -/
abbrev SlE := SlOf 3 eC
theorem SlOf.row {w : World} {ao : Option Addr} {es : List Ent} (h : SlE w ao es) {k : Nat} (hk : k < es.length) :
    ∃ b off, ao = some ⟨b, off, none⟩ ∧ b < w.heap.size ∧ w.cell? ⟨b, off + k * 3, none⟩ = some (.int .u64 (es.getD k default).n) ∧ w.cell? ⟨b, off + k * 3 + 1, none⟩ = some (.int .u64 (es.getD k default).b) ∧ w.cell? ⟨b, off + k * 3 + 2, none⟩ = some (.int .u64 (es.getD k default).r) := by
  obtain ⟨b, off, rfl, hb, hc⟩ := h (by omega)
  have e : es.getD k default = es[k] := by simp [hk]
  rw [e]
  exact ⟨b, off, rfl, hb, hc k hk 0 _ rfl, hc k hk 1 _ rfl, hc k hk 2 _ rfl⟩
theorem take_next {α : Type} {l : List α} {k : Nat} (h : k < l.length) (d : α) : l.take (k + 1) = l.take k ++ [l.getD k d] := by
  rw [List.take_add_one]; simp [h]
/-- Entries in a row of their own. -/
def OwnE (w : World) (base : Nat) (T : TypeId) (v : Value) (es : List Ent) : Prop := w.ownsRow base T 3 v es.length (fl es)
theorem OwnE.nil (w : World) (base : Nat) (T : TypeId) : OwnE w base T (.slice none 0 0) [] := ⟨rfl, Or.inl ⟨rfl, rfl⟩⟩
theorem OwnE.kept {l : List Nat} {w w' : World} {base : Nat} {T : TypeId} {v : Value} {es : List Ent} (h : OwnE w base T v es) (k : Kept l w w') (hn : ∀ g, v.ownBlock = some g → g ∉ l) : OwnE w' base T v es := by
  obtain ⟨h1, h2 | ⟨g, cap, cur, rfl, hb, hg, hr⟩⟩ := h
  · exact ⟨h1, Or.inl h2⟩
  · exact ⟨h1, Or.inr ⟨g, cap, cur, rfl, hb, k.blk hg (hn g rfl), hr⟩⟩
theorem OwnE.new {w w' : World} {base : Nat} {T : TypeId} {v : Value} {es : List Ent} (h : OwnE w base T v es) (k : Kept [] w w') : OwnE w' base T v es := h.kept k (by simp)
theorem OwnE.base {w : World} {b T : Nat} {v : Value} {es : List Ent} (h : OwnE w b T v es) : ∀ g, v.ownBlock = some g → b ≤ g ∧ g < w.heap.size := World.ownsRow.lt h
theorem OwnE.shape {w : World} {base : Nat} {T : TypeId} {v : Value} {es : List Ent} (h : OwnE w base T v es) : ∃ ao cap, v = .slice ao es.length cap ∧ SlE w ao es ∧ es.length ≤ cap ∧ (ao = none → cap = 0) := by
  obtain ⟨h1, ⟨rfl, h0⟩ | ⟨g, cap, cur, rfl, hb, hg, hnc, hcm, hsz, htk⟩⟩ := h
  · have : es = [] := List.eq_nil_of_length_eq_zero h0
    subst this
    exact ⟨none, 0, rfl, fun h => absurd h (by simp), Nat.le_refl _, fun _ => rfl⟩
  · refine ⟨_, cap, rfl, fun h0 => ⟨g, 0, rfl, lt_of_blk hg, fun i hi j v hv => ?_⟩, hnc, by simp⟩
    rw [Nat.zero_add]
    refine cell_of_blk hg ?_
    have q := fl_get es i hi j v hv
    rw [← htk, List.getElem?_take] at q
    split at q
    · rw [← Array.getElem?_toList]; exact q
    · cases q
theorem Kept.ob {w w1 : World} {v : Value} (hg : w.grownBy w1 v.ownBlock) : Kept v.ownBlock.toList w w1 :=
  ⟨hg.os, hg.tape, hg.output, hg.size, fun k hk hn => hg.block k hk (fun e => hn (by rw [← e]; simp))⟩
/-- 'append' of one entry that a literal has just made. -/
theorem append_ent {t T : TypeId} (ty : TypeId) (ht : Tryd.prog.underlying t = some (.slice T)) (hinfo : (Tryd.prog.info? T).map (fun i => (i.zero, i.size, i.bytes)) = some (some (.agg #[.int .u64 0, .int .u64 0, .int .u64 0]), 3, 24))
    (w : World) (base H : Nat) (v : Value) (es : List Ent) (e : Ent) (hH : w.heap.size = H) (hR : OwnE w base T v es) (hb : base ≤ w.heap.size) (hm : es.length ≤ 100000) :
    ∃ g cap w1, (Builtin.append_ #[t, t] ty #[v, .slice (some ⟨H, 0, none⟩) 1 1]).run Tryd.prog (w.alloc (.cells #[.int .u64 e.n, .int .u64 e.b, .int .u64 e.r] T)) = .ok (.slice (some ⟨g, 0, none⟩) (es.length + 1) cap) w1 ∧
      OwnE w1 base T (.slice (some ⟨g, 0, none⟩) (es.length + 1) cap) (es ++ [e]) ∧ (v.ownBlock = some g ∨ w.heap.size ≤ g) ∧ Kept v.ownBlock.toList w w1 := by
  subst hH
  obtain ⟨i, hi, hz0, hz1, hz2⟩ := info_parts' hinfo
  have hR' := hR.new ((Kept.refl [] w).alloc (.cells #[.int .u64 e.n, .int .u64 e.b, .int .u64 e.r] T))
  have hnews := World.news_of_block (blk_alloc_new w (.cells #[.int .u64 e.n, .int .u64 e.b, .int .u64 e.r] T))
  obtain ⟨g, cap, w1, hrun, hown, hg, hat, hlt⟩ := run_append_lies (P := Tryd.prog) (w.alloc (.cells #[.int .u64 e.n, .int .u64 e.b, .int .u64 e.r] T)) t ty base T i _ 3 24 ht hi hz0 hz1 hz2 rfl (by decide) v es.length (fl es) hR' ⟨w.heap.size, 0, none⟩ 1 1 (eC e) rfl hnews
    (by intro u hu; simp [eC] at hu; rcases hu with rfl | rfl | rfl <;> rfl) (by omega) (by unfold maxLen; omega) (by omega) (by rw [nblk_alloc]; omega) _ rfl
  refine ⟨g, cap, w1, hrun, ?_, ?_, ?_⟩
  · unfold OwnE; rw [fl_app, List.length_append]; exact hown
  · rcases hat with h | h
    · exact Or.inl h
    · right; rw [h, nblk_alloc]; omega
  · exact ((Kept.refl _ w).alloc _).trans (Kept.ob hg)
/-- What was made of nothing is no block of w. -/
theorem Kept.ofOwn {w a b : World} {base T : Nat} {v : Value} {es : List Ent} (h : Kept [] w a) (o : OwnE a base T v es) (hb : w.heap.size ≤ base) (k : Kept v.ownBlock.toList a b) : Kept [] w b :=
  h.then k (by intro x hx; right; have := (o.base x (by simpa using hx)).1; omega)
theorem same_at {w w' : World} (k : Kept [] w w') {b o : Nat} {v : Value} (h : w.cell? ⟨b, o, none⟩ = some v) : w'.cell? ⟨b, o, none⟩ = some v := by
  rw [kept_cell k (lt_of_cell h)]; exact h
end Go.Proofs.YtmmpafhfanldbaaDoor
