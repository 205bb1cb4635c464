/-
  The document's own access to a bank by value, of whatever kind.
-/
import Derived.Test.YtgafmklfpiipcaaGreatDoorDoes
import Derived.Deep.Cut
namespace Go.Proofs.YtgafmklfpiipcaaGreatDoor
open Go.ChangeShapes Go.WideShapes Go.ChangeAt Go.RowKit
open Go.Deep
theorem set_same (cs : List Int) (i : Nat) (h : i < cs.length) (x : Int) (e : x = cs.getD i 0) : cs.set i x = cs := by
  subst e; apply List.ext_getElem?; intro j
  by_cases q : i = j
  · subst q; simp [h]
  · simp [q]
theorem kept5 (w : World) (a b c d e : Obj) : Kept [] w (((((w.alloc a).alloc b).alloc c).alloc d).alloc e) := (((((Kept.refl [] w).alloc a).alloc b).alloc c).alloc d).alloc e
set_option maxRecDepth 100000 in
set_option maxHeartbeats 1000000 in
theorem rdo_no (g : Nat) (cs : List Int) (cap : Nat) (cnt : Int) (a : Acc) (k c via old v : Int) (w : World) (hR : RowR w g cs cap) (_hl : cs.length ≤ 17592186044415) (h0 : 0 ≤ cnt) (h1 : cnt < 4611686018427387904) (hc : ¬ hasC cs c) :
    Calls Tryz.prog 88 #[rbV (some ⟨g, 0, none⟩) cs.length cap cnt a, .int .i64 k, .int .i64 c, .int .u64 via, .int .u64 old, .int .u64 v] w fun e w' =>
      ∃ g' c', e = .returned (.tuple #[rbV (some ⟨g', 0, none⟩) cs.length c' (cnt + 1) (acV cs k c via old v), (acV cs k c via old v).val]) ∧ (g' = g ∨ w.heap.size ≤ g') ∧ RowR w' g' (clV cs k c old v) c' ∧ Kept [] w w' := by
  have e1 : acV cs k c via old v = ⟨k, c, via, 0, 0, false⟩ := if_neg hc
  have e2 : clV cs k c old v = cs := if_neg hc
  rw [e1, e2]
  clear e1 e2
  simp only [rbV]
  by_cases hc0 : 0 ≤ c
  · have hc1 : ¬ c < cs.length := fun h => hc ⟨hc0, h⟩
    clear hc
    go_enter Tryz.func88, Tryz.ntmps88
    go_wp2
    go_region
    all_goals
      go_wp2
      exact bodyPost_ret (v := .tuple #[rbV (some ⟨g, 0, none⟩) cs.length cap (cnt + 1) ⟨k, c, via, 0, 0, false⟩, Acc.val ⟨k, c, via, 0, 0, false⟩]) (by simp [results, Tryz.results88, go_sem, rbV, Acc.val]) rfl ⟨g, cap, rfl, Or.inl rfl, hR.kept (kept5 _ _ _ _ _ _).drew (by simp), (kept5 _ _ _ _ _ _).drew⟩
  · clear hc
    go_enter Tryz.func88, Tryz.ntmps88
    go_wp2
    go_region
    all_goals
      go_wp2
      exact bodyPost_ret (v := .tuple #[rbV (some ⟨g, 0, none⟩) cs.length cap (cnt + 1) ⟨k, c, via, 0, 0, false⟩, Acc.val ⟨k, c, via, 0, 0, false⟩]) (by simp [results, Tryz.results88, go_sem, rbV, Acc.val]) rfl ⟨g, cap, rfl, Or.inl rfl, hR.kept (kept5 _ _ _ _ _ _).drew (by simp), (kept5 _ _ _ _ _ _).drew⟩
set_option maxRecDepth 100000 in
set_option maxHeartbeats 1000000 in
theorem rdo_same2 (g : Nat) (cs : List Int) (cap : Nat) (cnt : Int) (a : Acc) (i : Nat) (via old _v had : Int) (w : World) (hR : RowR w g cs cap) (_hl : cs.length ≤ 17592186044415) (h0 : 0 ≤ cnt) (h1 : cnt < 4611686018427387904) (hi : i < cs.length) (hcell : w.cell? ⟨g, i, none⟩ = some (.int .u64 had)) (hset : cs.set i had = cs) :
    Calls Tryz.prog 88 #[rbV (some ⟨g, 0, none⟩) cs.length cap cnt a, .int .i64 2, .int .i64 i, .int .u64 via, .int .u64 old, .int .u64 had] w fun e w' =>
      ∃ g' c', e = .returned (.tuple #[rbV (some ⟨g', 0, none⟩) cs.length c' (cnt + 1) ⟨2, i, via, had, had, true⟩, Acc.val ⟨2, i, via, had, had, true⟩]) ∧ (g' = g ∨ w.heap.size ≤ g') ∧ RowR w' g' (cs.set i had) c' ∧ Kept [] w w' := by
  have hgl := hR.lt
  have hi' : (i : Int) < (cs.length : Int) := by omega
  have l1 : g < w.heap.size + 1 := by omega
  have l2 : g < w.heap.size + 1 + 1 := by omega
  have l3 : g < w.heap.size + 1 + 1 + 1 := by omega
  have l4 : g < w.heap.size + 1 + 1 + 1 + 1 := by omega
  have l5 : g < w.heap.size + 1 + 1 + 1 + 1 + 1 := by omega
  simp only [rbV]
  rw [hset]
  clear hset
  go_enter Tryz.func88, Tryz.ntmps88
  go_wp2
  go_region
  all_goals
    go_wp2
    exact bodyPost_ret (v := .tuple #[rbV (some ⟨g, 0, none⟩) cs.length cap (cnt + 1) ⟨2, i, via, had, had, true⟩, Acc.val ⟨2, i, via, had, had, true⟩]) (by simp [results, Tryz.results88, go_sem, rbV, Acc.val]) rfl ⟨g, cap, rfl, Or.inl rfl, hR.kept (kept5 _ _ _ _ _ _).drew (by simp), (kept5 _ _ _ _ _ _).drew⟩
set_option maxRecDepth 100000 in
set_option maxHeartbeats 1000000 in
theorem rdo_same3 (g : Nat) (cs : List Int) (cap : Nat) (cnt : Int) (a : Acc) (i : Nat) (via old _v had : Int) (w : World) (hR : RowR w g cs cap) (_hl : cs.length ≤ 17592186044415) (h0 : 0 ≤ cnt) (h1 : cnt < 4611686018427387904) (hi : i < cs.length) (hcell : w.cell? ⟨g, i, none⟩ = some (.int .u64 had)) (ho : had = old) (hset : cs.set i had = cs) :
    Calls Tryz.prog 88 #[rbV (some ⟨g, 0, none⟩) cs.length cap cnt a, .int .i64 3, .int .i64 i, .int .u64 via, .int .u64 old, .int .u64 had] w fun e w' =>
      ∃ g' c', e = .returned (.tuple #[rbV (some ⟨g', 0, none⟩) cs.length c' (cnt + 1) ⟨3, i, via, had, had, true⟩, Acc.val ⟨3, i, via, had, had, true⟩]) ∧ (g' = g ∨ w.heap.size ≤ g') ∧ RowR w' g' (cs.set i had) c' ∧ Kept [] w w' := by
  have hgl := hR.lt
  have hi' : (i : Int) < (cs.length : Int) := by omega
  have l1 : g < w.heap.size + 1 := by omega
  have l2 : g < w.heap.size + 1 + 1 := by omega
  have l3 : g < w.heap.size + 1 + 1 + 1 := by omega
  have l4 : g < w.heap.size + 1 + 1 + 1 + 1 := by omega
  have l5 : g < w.heap.size + 1 + 1 + 1 + 1 + 1 := by omega
  simp only [rbV]
  rw [hset]
  clear hset
  subst ho
  go_enter Tryz.func88, Tryz.ntmps88
  go_wp2
  go_region
  all_goals
    go_wp2
    exact bodyPost_ret (v := .tuple #[rbV (some ⟨g, 0, none⟩) cs.length cap (cnt + 1) ⟨3, i, via, had, had, true⟩, Acc.val ⟨3, i, via, had, had, true⟩]) (by simp [results, Tryz.results88, go_sem, rbV, Acc.val]) rfl ⟨g, cap, rfl, Or.inl rfl, hR.kept (kept5 _ _ _ _ _ _).drew (by simp), (kept5 _ _ _ _ _ _).drew⟩
set_option maxRecDepth 100000 in
set_option maxHeartbeats 1000000 in
theorem rdo_miss3 (g : Nat) (cs : List Int) (cap : Nat) (cnt : Int) (a : Acc) (i : Nat) (via old v had : Int) (w : World) (hR : RowR w g cs cap) (_hl : cs.length ≤ 17592186044415) (h0 : 0 ≤ cnt) (h1 : cnt < 4611686018427387904) (hi : i < cs.length) (hcell : w.cell? ⟨g, i, none⟩ = some (.int .u64 had)) (ho : ¬ had = old) (hset : cs.set i had = cs) :
    Calls Tryz.prog 88 #[rbV (some ⟨g, 0, none⟩) cs.length cap cnt a, .int .i64 3, .int .i64 i, .int .u64 via, .int .u64 old, .int .u64 v] w fun e w' =>
      ∃ g' c', e = .returned (.tuple #[rbV (some ⟨g', 0, none⟩) cs.length c' (cnt + 1) ⟨3, i, via, had, had, false⟩, Acc.val ⟨3, i, via, had, had, false⟩]) ∧ (g' = g ∨ w.heap.size ≤ g') ∧ RowR w' g' (cs.set i had) c' ∧ Kept [] w w' := by
  have hgl := hR.lt
  have hi' : (i : Int) < (cs.length : Int) := by omega
  have l1 : g < w.heap.size + 1 := by omega
  have l2 : g < w.heap.size + 1 + 1 := by omega
  have l3 : g < w.heap.size + 1 + 1 + 1 := by omega
  have l4 : g < w.heap.size + 1 + 1 + 1 + 1 := by omega
  have l5 : g < w.heap.size + 1 + 1 + 1 + 1 + 1 := by omega
  simp only [rbV]
  rw [hset]
  clear hset
  go_enter Tryz.func88, Tryz.ntmps88
  go_wp2
  go_region
  all_goals
    go_wp2
    exact bodyPost_ret (v := .tuple #[rbV (some ⟨g, 0, none⟩) cs.length cap (cnt + 1) ⟨3, i, via, had, had, false⟩, Acc.val ⟨3, i, via, had, had, false⟩]) (by simp [results, Tryz.results88, go_sem, rbV, Acc.val]) rfl ⟨g, cap, rfl, Or.inl rfl, hR.kept (kept5 _ _ _ _ _ _).drew (by simp), (kept5 _ _ _ _ _ _).drew⟩
set_option maxRecDepth 100000 in
set_option maxHeartbeats 1000000 in
theorem rdo_same4 (g : Nat) (cs : List Int) (cap : Nat) (cnt : Int) (a : Acc) (i : Nat) (via old v had : Int) (w : World) (hR : RowR w g cs cap) (_hl : cs.length ≤ 17592186044415) (h0 : 0 ≤ cnt) (h1 : cnt < 4611686018427387904) (hi : i < cs.length) (hcell : w.cell? ⟨g, i, none⟩ = some (.int .u64 had)) (hw : IntKind.u64.wrap (had + v) = had) (hset : cs.set i had = cs) :
    Calls Tryz.prog 88 #[rbV (some ⟨g, 0, none⟩) cs.length cap cnt a, .int .i64 4, .int .i64 i, .int .u64 via, .int .u64 old, .int .u64 v] w fun e w' =>
      ∃ g' c', e = .returned (.tuple #[rbV (some ⟨g', 0, none⟩) cs.length c' (cnt + 1) ⟨4, i, via, had, had, true⟩, Acc.val ⟨4, i, via, had, had, true⟩]) ∧ (g' = g ∨ w.heap.size ≤ g') ∧ RowR w' g' (cs.set i had) c' ∧ Kept [] w w' := by
  have hgl := hR.lt
  have hi' : (i : Int) < (cs.length : Int) := by omega
  have l1 : g < w.heap.size + 1 := by omega
  have l2 : g < w.heap.size + 1 + 1 := by omega
  have l3 : g < w.heap.size + 1 + 1 + 1 := by omega
  have l4 : g < w.heap.size + 1 + 1 + 1 + 1 := by omega
  have l5 : g < w.heap.size + 1 + 1 + 1 + 1 + 1 := by omega
  simp only [rbV]
  rw [hset]
  clear hset
  go_enter Tryz.func88, Tryz.ntmps88
  go_wp2
  go_region
  all_goals
    go_wp2
    exact bodyPost_ret (v := .tuple #[rbV (some ⟨g, 0, none⟩) cs.length cap (cnt + 1) ⟨4, i, via, had, had, true⟩, Acc.val ⟨4, i, via, had, had, true⟩]) (by simp [results, Tryz.results88, go_sem, rbV, Acc.val]) rfl ⟨g, cap, rfl, Or.inl rfl, hR.kept (kept5 _ _ _ _ _ _).drew (by simp), (kept5 _ _ _ _ _ _).drew⟩
set_option maxRecDepth 100000 in
set_option maxHeartbeats 1000000 in
theorem rdo_load (g : Nat) (cs : List Int) (cap : Nat) (cnt : Int) (a : Acc) (i : Nat) (via old v had : Int) (w : World) (hR : RowR w g cs cap) (_hl : cs.length ≤ 17592186044415) (h0 : 0 ≤ cnt) (h1 : cnt < 4611686018427387904) (hi : i < cs.length) (hcell : w.cell? ⟨g, i, none⟩ = some (.int .u64 had)) (k : Int) (hk2 : ¬ k = 2) (hk3 : ¬ k = 3) (hk4 : ¬ k = 4) (hset : cs.set i had = cs) :
    Calls Tryz.prog 88 #[rbV (some ⟨g, 0, none⟩) cs.length cap cnt a, .int .i64 k, .int .i64 i, .int .u64 via, .int .u64 old, .int .u64 v] w fun e w' =>
      ∃ g' c', e = .returned (.tuple #[rbV (some ⟨g', 0, none⟩) cs.length c' (cnt + 1) ⟨k, i, via, had, had, true⟩, Acc.val ⟨k, i, via, had, had, true⟩]) ∧ (g' = g ∨ w.heap.size ≤ g') ∧ RowR w' g' (cs.set i had) c' ∧ Kept [] w w' := by
  have hgl := hR.lt
  have hi' : (i : Int) < (cs.length : Int) := by omega
  have l1 : g < w.heap.size + 1 := by omega
  have l2 : g < w.heap.size + 1 + 1 := by omega
  have l3 : g < w.heap.size + 1 + 1 + 1 := by omega
  have l4 : g < w.heap.size + 1 + 1 + 1 + 1 := by omega
  have l5 : g < w.heap.size + 1 + 1 + 1 + 1 + 1 := by omega
  simp only [rbV]
  rw [hset]
  clear hset
  go_enter Tryz.func88, Tryz.ntmps88
  go_wp2
  go_region
  all_goals
    go_wp2
    exact bodyPost_ret (v := .tuple #[rbV (some ⟨g, 0, none⟩) cs.length cap (cnt + 1) ⟨k, i, via, had, had, true⟩, Acc.val ⟨k, i, via, had, had, true⟩]) (by simp [results, Tryz.results88, go_sem, rbV, Acc.val]) rfl ⟨g, cap, rfl, Or.inl rfl, hR.kept (kept5 _ _ _ _ _ _).drew (by simp), (kept5 _ _ _ _ _ _).drew⟩
end Go.Proofs.YtgafmklfpiipcaaGreatDoor
