/-
  The lives of keys: a map of slices that the call itself has made; when a key is in the map.
-/
import Derived.Test.YtlmkcakmeldfeaaHOrdE
import Derived.Maps.RangeWalk
namespace Go.Proofs.Ytlmkcakmeldfeaa.Q
set_option maxRecDepth 100000
open Go.RowKit
open Go.Deep
/-- A change: from when on a key is in the map, or is not. -/
structure Chg where
  t : Int
  h : Bool
def chC (c : Chg) : List Value := [.int .i64 c.t, .bool c.h]
theorem chC_len (c : Chg) : (chC c).length = 2 := rfl
theorem chC_one (c : Chg) : ∀ u ∈ chC c, u.oneCell' = true := by intro u hu; simp [chC] at hu; rcases hu with rfl | rfl <;> rfl
/-- Elements as they are. -/
def rawR (v : Value) : Option (DataW Value × List MemPlace) := some (.held v, [])
theorem key_u64 : Go.Maps.Keyed Try.prog 41 := Go.Maps.int_keyed Try.underlying41
/-- Block b is the map of lives: key by key a slice of its own. -/
structure Lvs (w : World) (b base n : Nat) (D : DataW Value) (val : Int → Value) (L : Int → List Chg) : Prop where
  own : w.ownsMap Try.prog 41 rawR b n D
  at_ : ∀ k : Int, (Lit.int .u64 k).wf = true → D.atKey (.int .u64 k) (.held (.slice none 0 0)) = .held (val k)
  row : ∀ k : Int, OwnV 2 chC w base 87 (val k) (L k)
  apart : ∀ j k : Int, j ≠ k → (val j).ownBlock = none ∨ (val j).ownBlock ≠ (val k).ownBlock
  low : b < base
theorem Kept.gb {w w' : World} (k : Kept [] w w') (row : Option Nat) : w.grownBy w' row := ⟨k.os, k.tape, k.output, k.size, fun i hi _ => k.block i hi (by simp)⟩
theorem Lvs.new {w w' : World} {b base n : Nat} {D : DataW Value} {val : Int → Value} {L : Int → List Chg} (h : Lvs w b base n D val L) (k : Kept [] w w') : Lvs w' b base n D val L :=
  ⟨h.own.kept (Kept.gb k none) (by simp), h.at_, fun j => (h.row j).new k, h.apart, h.low⟩
theorem Lvs.made (w : World) : Lvs (w.alloc (.map #[] 0)) w.heap.size (w.heap.size + 1) 0 (.map []) (fun _ => .slice none 0 0) (fun _ => []) :=
  ⟨World.ownsMap_made w _ _ _, fun _ _ => rfl, fun _ => OwnV.nil _ _ _, fun _ _ _ => Or.inl rfl, Nat.lt_succ_self _⟩
theorem zero_life (w : World) : (zeroValue 72).run Try.prog w = .ok (.slice none 0 0) w := by
  have : (Try.prog.info? 72).map (·.zero) = some (some (.slice none 0 0)) := by kernel_rfl
  unfold zeroValue typeInfo
  cases hq : Try.prog.info? 72 with
  | none => rw [hq] at this; cases this
  | some i => rw [hq] at this; simp at this; simp [Sem.run_bind, hq, this]
/-- 'm[k]'. -/
theorem Lvs.look {w : World} {b base n : Nat} {D : DataW Value} {val : Int → Value} {L : Int → List Chg} (h : Lvs w b base n D val L) {k : Int} (hk : (Lit.int .u64 k).wf = true) :
    (Instr.lookup 68 (.map (some b)) (.int .u64 k) false).run Try.prog w = .ok (val k) w := by
  obtain ⟨v, ps, hrun, hv⟩ := h.own.lookup key_u64 Try.underlying68 (zero_life w) (zd := .held (.slice none 0 0)) (zp := []) rfl (Go.Maps.keyOf_int_mk Try.underlying41 hk)
  rw [h.at_ k hk] at hv
  have : v = val k := by unfold rawR at hv; simp at hv; exact hv.1
  rw [hrun, this]
/-- 'm[k] = append(m[k], c)', behind the append. -/
theorem Lvs.step {w w1 : World} {b base n : Nat} {D : DataW Value} {val : Int → Value} {L : Int → List Chg} (h : Lvs w b base n D val L) {k : Int} (hk : (Lit.int .u64 k).wf = true) (hn : n < 100000) {u : Value} {c : Chg}
    (g : w.grownBy w1 (val k).ownBlock) (O : OwnV 2 chC w1 base 87 u (L k ++ [c])) (at1 : (val k).ownBlock = u.ownBlock ∨ ∃ x, u.ownBlock = some x ∧ w.heap.size ≤ x) :
    ∃ w2 D2, (Instr.mapUpdate 68 (.map (some b)) (.int .u64 k) u).run Try.prog w1 = .ok () w2 ∧ Lvs w2 b base (n + 1) D2 (fun j => if j = k then u else val j) (fun j => if j = k then L k ++ [c] else L j) ∧ w1.grownBy w2 (some b) ∧ (∀ j : Int, Maps.has D2 (.int .u64 j) = (decide (j = k) || Maps.has D (.int .u64 j))) := by
  have hb : b < w.heap.size := h.own.lt
  have nb : ∀ j, (val j).ownBlock ≠ some b := fun j e => by have := ((h.row j).base b e).1; have := h.low; omega
  have own1 := h.own.kept g (fun e => nb k e.symm)
  obtain ⟨w2, hrun, own2, g2⟩ := own1.update key_u64 Try.underlying68 (by unfold maxLen; omega) (Go.Maps.keyOf_int_mk Try.underlying41 hk) (val := u) (d := .held u) (ps := []) rfl
  have ub : u.ownBlock ≠ some b := fun e => by have := (O.base b e).1; have := h.low; omega
  have isM : Maps.IsMap D := by obtain ⟨es, cl, _, _, _, e⟩ := h.own; exact ⟨_, e⟩
  have kl : WideAt.IsKeyLit (Lit.int .u64 k) := by simp [WideAt.IsKeyLit]
  have keep : ∀ (j : Int), j ≠ k → OwnV 2 chC w1 base 87 (val j) (L j) := fun j hj => by
    refine (h.row j).kept (l := (val k).ownBlock.toList) ⟨g.os, g.tape, g.output, g.size, fun i hi hn => g.block i hi (fun e => hn (by rw [← e]; simp))⟩ (fun x hx => ?_)
    rcases h.apart j k hj with e | e
    · rw [e] at hx; cases hx
    · intro hm; exact e (by rw [hx]; have : (val k).ownBlock = some x := by simpa using hm
                            rw [this])
  have keep2 : ∀ (v : Value) (l : List Chg), OwnV 2 chC w1 base 87 v l → v.ownBlock ≠ some b → OwnV 2 chC w2 base 87 v l := fun v l o hv => by
    refine o.kept (l := [b]) ⟨g2.os, g2.tape, g2.output, g2.size, fun i hi hn => g2.block i hi (fun e => hn (by cases e; simp))⟩ (fun x hx => ?_)
    intro hm
    simp at hm
    subst hm
    exact hv hx
  refine ⟨w2, _, hrun, ⟨own2, fun j hj => ?_, fun j => ?_, fun i j hij => ?_, h.low⟩, g2, fun j => ?_⟩
  · by_cases e : j = k
    · subst e; simp [Maps.atKey_put_same isM kl]
    · rw [if_neg e, Maps.atKey_put_other (by simp [e])]; exact h.at_ j hj
  · by_cases e : j = k
    · subst e; simp; exact keep2 _ _ O ub
    · rw [if_neg e, if_neg e]; exact keep2 _ _ (keep j e) (nb j)
  · have other : ∀ j, j ≠ k → (val j).ownBlock = none ∨ (val j).ownBlock ≠ u.ownBlock := fun j hj => by
      rcases at1 with e | ⟨x, e, hx⟩
      · rw [← e]; exact h.apart j k hj
      · rw [e]
        cases hv : (val j).ownBlock with
        | none => exact Or.inl rfl
        | some y => right; intro e2; cases e2; have := ((h.row j).base _ hv).2; omega
    by_cases e1 : i = k
    · subst e1
      rw [if_pos rfl, if_neg (Ne.symm hij)]
      rcases other j (Ne.symm hij) with e | e
      · cases hu : u.ownBlock with
        | none => exact Or.inl rfl
        | some y => right; rw [e]; simp
      · exact Or.inr (Ne.symm e)
    · rw [if_neg e1]
      by_cases e2 : j = k
      · subst e2; rw [if_pos rfl]; exact other i e1
      · rw [if_neg e2]; exact h.apart i j hij
  · by_cases e : j = k
    · subst e; rw [Maps.has_put_same isM kl]; simp
    · rw [Maps.has_put_other (by simp [e])]; simp [e]
end Go.Proofs.Ytlmkcakmeldfeaa.Q
