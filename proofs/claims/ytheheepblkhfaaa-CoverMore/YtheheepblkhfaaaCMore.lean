/-
  'append' of words to words that came in and have no room.
-/
import Derived.Test.YtheheepblkhfaaaCLaw
import Derived.Deep.Upon
import Derived.ArgAppend
namespace Go.Proofs.Ytheheepblkhfaaa
set_option maxRecDepth 100000
open Go.RowKit
open Go.Deep
theorem own_words {w : World} {base n : Nat} {v : Value} {xs : List Int} (hn : n = xs.length) (h : w.ownsRow base 22 1 v n (xs.map (Value.int .u64))) : ∃ co c', v = .slice co n c' ∧ Sl w co xs := by
  obtain ⟨h1, ⟨rfl, h0⟩ | ⟨g, cap, cur, rfl, hb, hg, hnc, hcm, hsz, htk⟩⟩ := h
  · subst h0
    exact ⟨none, 0, rfl, fun h => absurd h (by omega)⟩
  · refine ⟨_, cap, rfl, fun _ => ⟨_, rfl, fun i hi => ?_⟩⟩
    rw [addr_add0]
    refine cell_of_blk hg ?_
    have q : (xs.map (Value.int .u64))[i]? = some (.int .u64 xs[i]) := by simp [hi]
    rw [← htk, List.getElem?_take] at q
    split at q
    · rw [← Array.getElem?_toList]; exact q
    · cases q
theorem append_words (ty : TypeId) (w : World) (ao bo : Option Addr) (xs ys : List Int) (n m cb : Nat) (hn : n = xs.length) (hm : m = ys.length) (ha : Sl w ao xs) (hb : Sl w bo ys) (hl : n ≤ 1000) (hk : m ≤ 1000) :
    ∃ co c' w1, (Builtin.append_ #[25, 25] ty #[.slice ao n n, .slice bo m cb]).run Try.prog w = .ok (.slice co (n + m) c') w1 ∧ Sl w1 co (xs ++ ys) ∧ Kept [] w w1 := by
  obtain ⟨i, hi, hz0, hz1, hz2⟩ := info_parts info_u64
  by_cases h0 : m = 0
  · subst h0
    have hy : ys = [] := List.eq_nil_of_length_eq_zero hm.symm
    subst hy
    have hs : Src Try.prog i.size 25 (.slice bo 0 cb) 0 [] w := by
      cases bo with
      | none => exact Src.ofNil w Try.underlying25 cb
      | some a => exact Src.ofSlice w Try.underlying25 a 0 cb [] (by simp) (by simp) (by simp)
    exact ⟨ao, n, w, run_append_nothing (P := Try.prog) w 25 25 ty 22 i Try.underlying25 hi ao n n (Nat.le_refl _) _ hs, by rw [List.append_nil]; exact ha, Kept.refl _ _⟩
  · obtain ⟨ad, rfl, hc⟩ := hb (by omega)
    have hnm : n + m = (xs ++ ys).length := by rw [List.length_append, hn, hm]
    cases ao with
    | none =>
      have hx : xs = [] := by
        cases xs with
        | nil => rfl
        | cons a r => obtain ⟨ad, h, _⟩ := ha (by simp); cases h
      subst hx
      have h9 : n = 0 := hn
      subst h9
      have hown : w.ownsRow w.heap.size 22 1 (.slice none 0 0) 0 [] := ⟨rfl, Or.inl ⟨rfl, rfl⟩⟩
      obtain ⟨v', w1, hrun, hown', hg, _⟩ := run_append_own (P := Try.prog) w w.heap.size 25 ty 22 i (.int .u64 0) 1 8 Try.underlying25 hi hz0 hz1 hz2 rfl (by decide) _ 0 [] hown ad m cb (ys.map (Value.int .u64)) (by simp [hm]) (sl_cells hc) (words_one ys) (by unfold maxLen; omega) (by omega) (Nat.le_refl _)
      rw [List.nil_append] at hown'
      obtain ⟨co, c', rfl, S⟩ := own_words (by rw [Nat.zero_add]; exact hm) hown'
      exact ⟨co, c', w1, hrun, S, ⟨hg.os, hg.tape, hg.output, hg.size, fun k hk _ => hg.block k hk (by simp [Value.ownBlock])⟩⟩
    | some b =>
      have hcx : ∀ j v, (xs.map (Value.int .u64))[j]? = some v → w.cell? (b.add j) = some v := by
        by_cases hx : 0 < xs.length
        · obtain ⟨b', he, hc'⟩ := ha hx
          cases he; exact sl_cells hc'
        · have : xs = [] := List.eq_nil_of_length_eq_zero (by omega)
          subst this; simp
      obtain ⟨v', w1, hrun, hown', hg⟩ := run_append_arg_grows (P := Try.prog) w 25 ty 22 i (.int .u64 0) 1 8 Try.underlying25 hi hz0 hz1 hz2 rfl (by decide) b n n (xs.map (Value.int .u64)) (by simp [hn]) hcx ad m cb (ys.map (Value.int .u64)) (by simp [hm]) (sl_cells hc) (by omega) (by unfold maxLen; omega) (by omega)
      rw [← List.map_append] at hown'
      obtain ⟨co, c', rfl, S⟩ := own_words hnm hown'
      exact ⟨co, c', w1, hrun, S, ⟨hg.os, hg.tape, hg.output, hg.size, fun k hk _ => hg.block k hk (by simp)⟩⟩
end Go.Proofs.Ytheheepblkhfaaa
