/-
  Things of n cells each in a row of their own, as 'append' makes it; words.
-/
import Derived.Test.YtgafmklfpiipcaaGreatDoorOwn
import Derived.Test.YtgafmklfpiipcaaGreatDoorOpen
import Derived.Deep.AppendLies
import Derived.Deep.RegionHeld3
namespace Go.Proofs.YtgafmklfpiipcaaGreatDoor.K
set_option maxRecDepth 100000
open Go.ChangeShapes Go.WideShapes Go.ChangeAt Go.RowKit
open Go.Deep
theorem kept_ob {w w1 : World} {v : Value} (hg : w.grownBy w1 v.ownBlock) : Kept v.ownBlock.toList w w1 :=
  ⟨hg.os, hg.tape, hg.output, hg.size, fun k hk hn => hg.block k hk (fun e => hn (by rw [← e]; simp))⟩
section
variable {α : Type} {n : Nat} {f : α → List Value}
theorem fm_len (hf : ∀ x, (f x).length = n) : ∀ l : List α, (l.flatMap f).length = l.length * n
  | [] => by simp
  | e :: l => by rw [List.flatMap_cons, List.length_append, fm_len hf l, hf, List.length_cons, Nat.succ_mul]; omega
theorem fm_get (hf : ∀ x, (f x).length = n) : ∀ (l : List α) (i : Nat) (h : i < l.length) (j : Nat) (v : Value), (f l[i])[j]? = some v → (l.flatMap f)[i * n + j]? = some v
  | [], i, h, _, _, _ => absurd h (by simp)
  | e :: l, 0, _, j, v, hv => by
    have hv' : (f e)[j]? = some v := hv
    rw [List.flatMap_cons, Nat.zero_mul, Nat.zero_add, List.getElem?_append_left (List.getElem?_eq_some_iff.1 hv').1]; exact hv'
  | e :: l, i + 1, h, j, v, hv => by
    rw [List.flatMap_cons, List.getElem?_append_right (by rw [hf, Nat.succ_mul]; omega)]
    have := fm_get hf l i (by simpa using h) j v (by simpa using hv)
    rw [← this]; congr 1; rw [hf, Nat.succ_mul]; omega
/-- Things in a row of their own. -/
def OwnV (n : Nat) (f : α → List Value) (w : World) (base : Nat) (T : TypeId) (v : Value) (xs : List α) : Prop := w.ownsRow base T n v xs.length (xs.flatMap f)
theorem OwnV.nil (w : World) (base : Nat) (T : TypeId) : OwnV n f w base T (.slice none 0 0) [] := ⟨by simp, Or.inl ⟨rfl, rfl⟩⟩
theorem OwnV.kept {l : List Nat} {w w' : World} {base : Nat} {T : TypeId} {v : Value} {xs : List α} (h : OwnV n f w base T v xs) (k : Kept l w w') (hn : ∀ g, v.ownBlock = some g → g ∉ l) : OwnV n f w' base T v xs := by
  obtain ⟨h1, h2 | ⟨g, cap, cur, rfl, hb, hg, hr⟩⟩ := h
  · exact ⟨h1, Or.inl h2⟩
  · exact ⟨h1, Or.inr ⟨g, cap, cur, rfl, hb, k.blk hg (hn g rfl), hr⟩⟩
theorem OwnV.new {w w' : World} {base : Nat} {T : TypeId} {v : Value} {xs : List α} (h : OwnV n f w base T v xs) (k : Kept [] w w') : OwnV n f w' base T v xs := h.kept k (by simp)
theorem OwnV.base {w : World} {b : Nat} {T : TypeId} {v : Value} {xs : List α} (h : OwnV n f w b T v xs) : ∀ g, v.ownBlock = some g → b ≤ g ∧ g < w.heap.size := World.ownsRow.lt h
theorem OwnV.shape (hf : ∀ x, (f x).length = n) {w : World} {base : Nat} {T : TypeId} {v : Value} {xs : List α} (h : OwnV n f w base T v xs) : ∃ ao cap, v = .slice ao xs.length cap ∧ SlOf n f w ao xs ∧ xs.length ≤ cap ∧ (ao = none → cap = 0) ∧ (∀ ad, ao = some ad → base ≤ ad.block ∧ ad = ⟨ad.block, 0, none⟩ ∧ ∃ cur, w.heap[ad.block]? = some (.cells cur T (0, 0))) := by
  obtain ⟨h1, ⟨rfl, h0⟩ | ⟨g, cap, cur, rfl, hb, hg, hnc, hcm, hsz, htk⟩⟩ := h
  · have : xs = [] := List.eq_nil_of_length_eq_zero h0
    subst this
    exact ⟨none, 0, rfl, fun h => absurd h (by simp), Nat.le_refl _, fun _ => rfl, by simp⟩
  · refine ⟨_, cap, rfl, fun h0 => ⟨g, 0, rfl, lt_of_blk hg, fun i hi j v hv => ?_⟩, hnc, by simp, fun ad e => by cases e; exact ⟨hb, rfl, cur, hg⟩⟩
    rw [Nat.zero_add]
    refine cell_of_blk hg ?_
    have q := fm_get hf xs i hi j v hv
    rw [← htk, List.getElem?_take] at q
    split at q
    · rw [← Array.getElem?_toList]; exact q
    · cases q
theorem own_v {w : World} {base m : Nat} {T : TypeId} {v : Value} {xs : List α} {cs : List Value} (hm : m = xs.length) (hc : cs = xs.flatMap f) (h : w.ownsRow base T n v m cs) : OwnV n f w base T v xs := by subst hm hc; exact h
/-- 'append' of one thing that a literal has just made. -/
theorem append_v (hf : ∀ x, (f x).length = n) (h1 : ∀ x, ∀ u ∈ f x, u.oneCell' = true) (hn : 0 < n) {t T : TypeId} (ty : TypeId) (ht : Tryz.prog.underlying t = some (.slice T)) {z : Value} {bytes : Nat} (hinfo : (Tryz.prog.info? T).map (fun i => (i.zero, i.size, i.bytes)) = some (some z, n, bytes)) (hzs : z.cells.size = n) (hby : bytes ≤ 1000)
    (w : World) (base H : Nat) (v : Value) (xs : List α) (x : α) (cs : Array Value) (hcs : cs = (f x).toArray) (hH : w.heap.size = H) (hR : OwnV n f w base T v xs) (hb : base ≤ w.heap.size) (hm : xs.length ≤ 100000) :
    ∃ g cap w1, (Builtin.append_ #[t, t] ty #[v, .slice (some ⟨H, 0, none⟩) 1 1]).run Tryz.prog (w.alloc (.cells cs T)) = .ok (.slice (some ⟨g, 0, none⟩) (xs.length + 1) cap) w1 ∧
      OwnV n f w1 base T (.slice (some ⟨g, 0, none⟩) (xs.length + 1) cap) (xs ++ [x]) ∧ (v.ownBlock = some g ∨ w.heap.size ≤ g) ∧ Kept v.ownBlock.toList w w1 := by
  subst hH hcs
  obtain ⟨i, hi, hz0, hz1, hz2⟩ := info_parts' hinfo
  have hR' := hR.new ((Kept.refl [] w).alloc (.cells (f x).toArray T))
  have hnews := World.news_of_block (blk_alloc_new w (.cells (f x).toArray T))
  obtain ⟨g, cap, w1, hrun, hown, hg, hat, hlt⟩ := run_append_lies (P := Tryz.prog) (w.alloc (.cells (f x).toArray T)) t ty base T i _ n bytes ht hi hz0 hz1 hz2 hzs hn v xs.length (xs.flatMap f) hR' ⟨w.heap.size, 0, none⟩ 1 1 (f x) (by rw [hf, Nat.one_mul]) (by simpa using hnews)
    (h1 x) (by omega) (by unfold maxLen; omega) (by have := Nat.mul_le_mul (show xs.length + 1 ≤ 100001 by omega) hby; omega) (by rw [nblk_alloc]; omega) _ rfl
  refine ⟨g, cap, w1, hrun, own_v (by simp) (by simp) hown, ?_, ?_⟩
  · rcases hat with h | h
    · exact Or.inl h
    · right; rw [h, nblk_alloc]; omega
  · exact ((Kept.refl _ w).alloc _).trans (kept_ob hg)
theorem Kept.ofOwnV {w a b : World} {base : Nat} {T : TypeId} {v : Value} {xs : List α} (h : Kept [] w a) (o : OwnV n f a base T v xs) (hb : w.heap.size ≤ base) (k : Kept v.ownBlock.toList a b) : Kept [] w b :=
  h.then k (by intro x hx; right; have := (o.base x (by simpa using hx)).1; omega)
end
/-- Words. -/
def wC (x : Int) : List Value := [.int .u64 x]
theorem wC_len (x : Int) : (wC x).length = 1 := rfl
theorem wC_one (x : Int) : ∀ u ∈ wC x, u.oneCell' = true := by intro u hu; simp [wC] at hu; subst hu; rfl
abbrev SlW := SlOf 1 wC
theorem SlW.cell {w : World} {ao : Option Addr} {xs : List Int} (h : SlW w ao xs) {k : Nat} (hk : k < xs.length) : ∃ b off, ao = some ⟨b, off, none⟩ ∧ b < w.heap.size ∧ w.cell? ⟨b, off + k, none⟩ = some (.int .u64 (xs.getD k 0)) := by
  obtain ⟨b, off, rfl, hb, hc⟩ := h (by omega)
  have e : xs.getD k 0 = xs[k] := by simp [hk]
  have := hc k hk 0 _ rfl
  rw [e]
  exact ⟨b, off, rfl, hb, by simpa using this⟩
theorem info_word : (Tryz.prog.info? 25).map (fun i => (i.zero, i.size, i.bytes)) = some (some (.int .u64 0), 1, 8) := by kernel_rfl
theorem append_word (ty : TypeId) (w : World) (base H : Nat) (v : Value) (xs : List Int) (x : Int) (hH : w.heap.size = H) (hR : OwnV 1 wC w base 25 v xs) (hb : base ≤ w.heap.size) (hm : xs.length ≤ 100000) :
    ∃ g cap w1, (Builtin.append_ #[24, 24] ty #[v, .slice (some ⟨H, 0, none⟩) 1 1]).run Tryz.prog (w.alloc (.cells #[.int .u64 x] 25)) = .ok (.slice (some ⟨g, 0, none⟩) (xs.length + 1) cap) w1 ∧
      OwnV 1 wC w1 base 25 (.slice (some ⟨g, 0, none⟩) (xs.length + 1) cap) (xs ++ [x]) ∧ (v.ownBlock = some g ∨ w.heap.size ≤ g) ∧ Kept v.ownBlock.toList w w1 :=
  append_v wC_len wC_one (by decide) ty Tryz.underlying24 info_word rfl (by decide) w base H v xs x _ rfl hH hR hb hm
theorem OwnV.cellw {w : World} {base g L cp : Nat} {T : TypeId} {l : List Int} (h : OwnV 1 wC w base T (.slice (some ⟨g, 0, none⟩) L cp) l) {k : Nat} (hk : k < l.length) : w.cell? ⟨g, k, none⟩ = some (.int .u64 (l.getD k 0)) ∧ g < w.heap.size := by
  obtain ⟨ao, cap, e, S, _⟩ := h.shape wC_len
  injection e with e1 e2 e3
  subst e1
  obtain ⟨b, off, e4, hlt, hc⟩ := SlW.cell S hk
  injection e4 with e4
  injection e4 with e5 e6
  subst e5 e6
  rw [Nat.zero_add] at hc
  exact ⟨hc, hlt⟩
theorem wC_map (xs : List Int) : xs.flatMap wC = xs.map (Value.int .u64) := by
  induction xs with
  | nil => rfl
  | cons a r ih => rw [List.flatMap_cons, ih]; rfl
/-- 'append' of a slice of words, wherever it lies, to a row of one's own. -/
theorem append_ws (ty : TypeId) (w : World) (base : Nat) (v : Value) (ys xs : List Int) (ao : Option Addr) (n cap : Nat) (hn : n = xs.length) (hR : OwnV 1 wC w base 25 v ys) (hs : Sl w ao xs) (hc : ao = none → cap = 0) (hb : base ≤ w.heap.size) (hm : ys.length + xs.length ≤ 100000) :
    ∃ v' w1, (Builtin.append_ #[24, 24] ty #[v, .slice ao n cap]).run Tryz.prog w = .ok v' w1 ∧ OwnV 1 wC w1 base 25 v' (ys ++ xs) ∧ Kept v.ownBlock.toList w w1 := by
  subst hn
  obtain ⟨i, hi, hz0, hz1, hz2⟩ := info_parts' info_word
  cases ao with
  | none =>
    have hx : xs = [] := by
      cases xs with
      | nil => rfl
      | cons a r => obtain ⟨ad, h, _⟩ := hs (by simp); cases h
    subst hx
    obtain rfl := hc rfl
    exact ⟨v, w, run_append_owned_none (P := Tryz.prog) (w := w) base 24 ty 25 i 1 Tryz.underlying24 hi v ys.length (ys.flatMap wC) hR, by rw [List.append_nil]; exact hR, Kept.refl _ _⟩
  | some ad =>
    have hcells : ∀ j u, (xs.flatMap wC)[j]? = some u → w.cell? (ad.add j) = some u := by
      rw [wC_map]
      by_cases h0 : 0 < xs.length
      · obtain ⟨ad', he, hc'⟩ := hs h0
        cases he
        exact sl_cells hc'
      · have hx : xs = [] := List.eq_nil_of_length_eq_zero (by omega)
        subst hx; simp
    obtain ⟨v', w1, hrun, hown', hg, _⟩ := run_append_own (P := Tryz.prog) w base 24 ty 25 i (.int .u64 0) 1 8 Tryz.underlying24 hi hz0 hz1 hz2 rfl (by decide) v ys.length (ys.flatMap wC) hR ad xs.length cap (xs.flatMap wC) (by rw [wC_map]; simp) hcells (by rw [wC_map]; exact words_one xs) (by unfold maxLen; omega) (by omega) hb
    exact ⟨v', w1, hrun, own_v (by simp) (by simp) hown', kept_ob hg⟩
/-- An empty slice literal. -/
theorem OwnV.lit (w : World) {base : Nat} (hb : base ≤ w.heap.size) : OwnV 1 wC (w.alloc (.cells #[] 25)) base 25 (.slice (some ⟨w.heap.size, 0, none⟩) 0 0) [] := World.ownsRow_made w #[] 0 hb (by decide) rfl
/-- A slice of words that lies behind base. -/
structure SlB (base : Nat) (w : World) (ao : Option Addr) (cap : Nat) (xs : List Int) : Prop where
  s : Sl w ao xs
  c : ao = none → cap = 0
  b : ∀ ad, ao = some ad → base ≤ ad.block
  t : ∀ ad, ao = some ad → ∃ cur, w.heap[ad.block]? = some (.cells cur 25 (0, 0))
theorem SlB.far {base : Nat} {l : List Nat} {w w' : World} {ao : Option Addr} {cap : Nat} {xs : List Int} (h : SlB base w ao cap xs) (k : Kept l w w') (hl : ∀ ad, ao = some ad → ad.block ∉ l) : SlB base w' ao cap xs :=
  ⟨h.s.kept k hl, h.c, h.b, fun ad e => by obtain ⟨cur, z⟩ := h.t ad e; exact ⟨cur, k.blk z (hl ad e)⟩⟩
theorem SlB.kept {base : Nat} {l : List Nat} {w w' : World} {ao : Option Addr} {cap : Nat} {xs : List Int} (h : SlB base w ao cap xs) (k : Kept l w w') (hl : ∀ x ∈ l, x < base) : SlB base w' ao cap xs :=
  h.far k (fun ad e hx => by have := hl _ hx; have := h.b ad e; omega)
theorem SlB.new {base : Nat} {w w' : World} {ao : Option Addr} {cap : Nat} {xs : List Int} (h : SlB base w ao cap xs) (k : Kept [] w w') : SlB base w' ao cap xs := h.kept k (by simp)
theorem SlB.nil (base : Nat) (w : World) : SlB base w none 0 [] := ⟨fun h => absurd h (by simp), fun _ => rfl, fun ad e => (by cases e), fun ad e => (by cases e)⟩
theorem OwnV.slb {base : Nat} {w : World} {v : Value} {xs : List Int} (h : OwnV 1 wC w base 25 v xs) : ∃ ao cap, v = .slice ao xs.length cap ∧ SlB base w ao cap xs := by
  obtain ⟨ao, cap, e, S, _, hc, hb⟩ := h.shape wC_len
  exact ⟨ao, cap, e, SlOf.sl S, hc, fun ad e => (hb ad e).1, fun ad e => (hb ad e).2.2⟩
end Go.Proofs.YtgafmklfpiipcaaGreatDoor.K
