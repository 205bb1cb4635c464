/-
  Law 6's own test that the program is alive.
-/
import Derived.Test.YtheheepblkhfaaaCSplit
import Derived.Test.YtheheepblkhfaaaCOld
namespace Go.Proofs.Ytheheepblkhfaaa
set_option maxRecDepth 100000
open Go.RowKit
open Go.Deep
theorem sl_new (w : World) (T : TypeId) (es : List Ent) (c : Array Value) (hc : c.toList = fl es) : SlE (w.alloc (.cells c T)) (some ⟨w.heap.size, 0, none⟩) es := by
  intro _
  refine ⟨_, 0, rfl, by rw [nblk_alloc]; omega, fun i hi j v hv => ?_⟩
  rw [Nat.zero_add]
  refine cell_of_blk (blk_alloc_new w _) ?_
  rw [← Array.getElem?_toList, hc]; exact fl_get es i hi j v hv
theorem blk_new_drew (w : World) (o : Obj) : (w.alloc o).drew.heap[w.heap.size]? = some o := blk_alloc_new w o
set_option maxHeartbeats 4000000 in
theorem alive_any (w : World) : Calls Try.prog 9 #[] w fun o w' => o = .returned (.bool true) ∧ Kept [] w w' := by
  have Z0 := blk_alloc_new w (.cells #[.int .u64 9, .int .u64 3, .int .u64 5] 28)
  have K0 : Kept [] w (w.alloc (.cells #[.int .u64 9, .int .u64 3, .int .u64 5] 28)) := (Kept.refl _ _).alloc _
  obtain ⟨B, hB⟩ : ∃ B, B = w.heap.size := ⟨_, rfl⟩
  rw [← hB] at Z0
  go_enter Try.func9, Try.ntmps9
  go_upto_region 2 with (fail)
  refine gen_world (fun W => W.heap[B]? = some (.cells #[.int .u64 9, .int .u64 3, .int .u64 5] 28 (0, 0)) ∧ Kept [] w W) ⟨Z0, K0⟩ ?_
  rw [← hB]
  clear Z0 K0 hB
  rintro W ⟨Z, T⟩
  have c0 := cell_of_blk Z (i := 0) rfl
  have c1 := cell_of_blk Z (i := 1) rfl
  have c2 := cell_of_blk Z (i := 2) rfl
  have KA : Kept [] W (W.alloc (.cells #[.int .u64 9, .int .u64 3, .int .u64 5, .int .u64 0, .int .u64 7, .int .u64 7] 28)) := (Kept.refl _ _).alloc _
  have KB : Kept [] (W.alloc (.cells #[.int .u64 9, .int .u64 3, .int .u64 5, .int .u64 0, .int .u64 7, .int .u64 7] 28)) ((W.alloc (.cells #[.int .u64 9, .int .u64 3, .int .u64 5, .int .u64 0, .int .u64 7, .int .u64 7] 28)).alloc (.cells #[.int .u64 5, .int .u64 6] 22)) := (Kept.refl _ _).alloc _
  have sA := (sl_new W 28 [⟨9, 3, 5⟩, ⟨0, 7, 7⟩] #[.int .u64 9, .int .u64 3, .int .u64 5, .int .u64 0, .int .u64 7, .int .u64 7] rfl).new KB
  have sB : Sl ((W.alloc (.cells #[.int .u64 9, .int .u64 3, .int .u64 5, .int .u64 0, .int .u64 7, .int .u64 7] 28)).alloc (.cells #[.int .u64 5, .int .u64 6] 22)) (some ⟨W.heap.size + 1, 0, none⟩) [5, 6] :=
    Row.sl (by have q := blk_alloc_new (W.alloc (.cells #[.int .u64 9, .int .u64 3, .int .u64 5, .int .u64 0, .int .u64 7, .int .u64 7] 28)) (.cells #[.int .u64 5, .int .u64 6] 22); rw [nblk_alloc] at q; exact q)
  have h1 := split_any (some ⟨W.heap.size + 1, 0, none⟩) [5, 6] 2 2 (some ⟨W.heap.size, 0, none⟩) [⟨9, 3, 5⟩, ⟨0, 7, 7⟩] 2 2 _ rfl sB (by omega) rfl sA (by omega)
  rw [show [(⟨9, 3, 5⟩ : Ent), ⟨0, 7, 7⟩].filter (fun e => cvB e [5, 6]) = [⟨9, 3, 5⟩] from by decide, show [(⟨9, 3, 5⟩ : Ent), ⟨0, 7, 7⟩].filter (fun e => !cvB e [5, 6]) = [⟨0, 7, 7⟩] from by decide] at h1
  clear sA sB
  go_wp2_with fail
  refine h1.mono ?_
  rintro o W2 ⟨a1, k1, a2, k2, rfl, S1, S2, K2⟩
  simp only [List.length_cons, List.length_nil, Nat.zero_add]
  have T2 := (T.trans KA).trans (KB.trans K2)
  have Z2 := (KA.trans (KB.trans K2)).blk Z (by simp)
  clear h1 KA KB K2 c0 c1 c2 Z T S2
  have c0 := cell_of_blk Z2 (i := 0) rfl
  have c1 := cell_of_blk Z2 (i := 1) rfl
  have c2 := cell_of_blk Z2 (i := 2) rfl
  have KC : Kept [] W2 (W2.alloc (.cells #[.int .u64 0, .int .u64 7, .int .u64 0, .int .u64 9, .int .u64 3, .int .u64 5] 28)) := (Kept.refl _ _).alloc _
  have h2 := oldest_any (some ⟨W2.heap.size, 0, none⟩) [⟨0, 7, 0⟩, ⟨9, 3, 5⟩] 2 2 _ rfl (sl_new W2 28 [⟨0, 7, 0⟩, ⟨9, 3, 5⟩] #[.int .u64 0, .int .u64 7, .int .u64 0, .int .u64 9, .int .u64 3, .int .u64 5] rfl) (by omega) (by omega)
  rw [show olV [⟨0, 7, 0⟩, ⟨9, 3, 5⟩] = 3 from by decide, show olB [⟨0, 7, 0⟩, ⟨9, 3, 5⟩] = true from by decide] at h2
  go_wp2_with fail
  refine h2.mono ?_
  rintro o W3 ⟨rfl, K3⟩
  have T3 := T2.trans (KC.trans K3)
  have Z3 := (KC.trans K3).blk Z2 (by simp)
  have S3 := S1.new (KC.trans K3)
  clear h2 KC K3 c0 c1 c2 Z2 T2 S1
  go_wp2_with fail
  refine (oldest_any none [] 0 0 _ rfl (fun h => absurd h (by simp)) (by omega) (by omega)).mono ?_
  rintro o W4 ⟨rfl, K4⟩
  rw [show olV [] = 0 from rfl, show olB [] = false from rfl]
  have Z4 := K4.blk Z3 (by simp)
  obtain ⟨g, q, rfl, _, hc⟩ := S3.new K4 (by simp)
  have T4 := T3.trans K4
  clear K4 Z3 T3 S3
  have d0 : W4.cell? ⟨g, q, none⟩ = some (.int .u64 9) := hc 0 (by simp) 0 _ rfl
  have d1 : W4.cell? ⟨g, q + 1, none⟩ = some (.int .u64 3) := hc 0 (by simp) 1 _ rfl
  have d2 : W4.cell? ⟨g, q + 2, none⟩ = some (.int .u64 5) := hc 0 (by simp) 2 _ rfl
  have HS : Hid (∀ W' : World, Kept [] W4 W' → W'.cell? ⟨B, 0, none⟩ = some (.int .u64 9) ∧ W'.cell? ⟨B, 1, none⟩ = some (.int .u64 3) ∧ W'.cell? ⟨B, 2, none⟩ = some (.int .u64 5) ∧ W'.cell? ⟨g, q, none⟩ = some (.int .u64 9) ∧ W'.cell? ⟨g, q + 1, none⟩ = some (.int .u64 3) ∧ W'.cell? ⟨g, q + 2, none⟩ = some (.int .u64 5)) := by
    intro W' k
    have y := k.blk Z4 (by simp)
    exact ⟨cell_of_blk y (i := 0) rfl, cell_of_blk y (i := 1) rfl, cell_of_blk y (i := 2) rfl, same_at k d0, same_at k d1, same_at k d2⟩
  have H1 : Hid (∀ (W' : World) (b : Nat), Kept [] W4 W' → W'.heap[b]? = some (.cells #[.int .u64 0, .int .u64 2, .int .u64 6] 22 (0, 0)) → Calls Try.prog 10 #[.agg #[.int .u64 9, .int .u64 3, .int .u64 5], .slice (some ⟨b, 0, none⟩) 3 3] W' fun o w' => o = .returned (.bool false) ∧ Kept [] W4 w') := fun W' b k z =>
    (covered_any ⟨9, 3, 5⟩ (some ⟨b, 0, none⟩) [0, 2, 6] 3 3 W' rfl (Row.sl z) (by omega)).mono fun _ _ h => ⟨by rw [h.1, show cvB ⟨9, 3, 5⟩ [0, 2, 6] = false from by decide], k.trans h.2⟩
  have H2 : Hid (∀ (W' : World) (b : Nat), Kept [] W4 W' → W'.heap[b]? = some (.cells #[.int .u64 9, .int .u64 5] 22 (0, 0)) → Calls Try.prog 10 #[.agg #[.int .u64 9, .int .u64 3, .int .u64 5], .slice (some ⟨b, 0, none⟩) 2 2] W' fun o w' => o = .returned (.bool true) ∧ Kept [] W4 w') := fun W' b k z =>
    (covered_any ⟨9, 3, 5⟩ (some ⟨b, 0, none⟩) [9, 5] 2 2 W' rfl (Row.sl z) (by omega)).mono fun _ _ h => ⟨by rw [h.1, show cvB ⟨9, 3, 5⟩ [9, 5] = true from by decide], k.trans h.2⟩
  have H3 : Hid (∀ (W' : World) (b : Nat), Kept [] W4 W' → W'.heap[b]? = some (.cells #[.int .u64 3] 22 (0, 0)) → Calls Try.prog 10 #[.agg #[.int .u64 9, .int .u64 3, .int .u64 5], .slice (some ⟨b, 0, none⟩) 1 1] W' fun o w' => o = .returned (.bool true) ∧ Kept [] W4 w') := fun W' b k z =>
    (covered_any ⟨9, 3, 5⟩ (some ⟨b, 0, none⟩) [3] 1 1 W' rfl (Row.sl z) (by omega)).mono fun _ _ h => ⟨by rw [h.1, show cvB ⟨9, 3, 5⟩ [3] = true from by decide], k.trans h.2⟩
  have H4 : Hid (∀ (W' : World), Kept [] W4 W' → Calls Try.prog 10 #[.agg #[.int .u64 9, .int .u64 3, .int .u64 5], .slice none 0 0] W' fun o w' => o = .returned (.bool false) ∧ Kept [] W4 w') := fun W' k =>
    (covered_any ⟨9, 3, 5⟩ none [] 0 0 W' rfl (fun h => absurd h (by simp)) (by omega)).mono fun _ _ h => ⟨by rw [h.1, show cvB ⟨9, 3, 5⟩ [] = false from by decide], k.trans h.2⟩
  have heq := eq_cent 9 3 5 9 3 5
  rw [show ((9 : Int) == 9 && (3 : Int) == 3 && (5 : Int) == 5) = true from rfl] at heq
  have HF : Hid _ := T4
  clear hc d0 d1 d2 Z4 T4
  go_wp2_with fail
  go_region_held3 (fun W' => W'.cell? ⟨B, 0, none⟩ = some (.int .u64 9) ∧ W'.cell? ⟨B, 1, none⟩ = some (.int .u64 3) ∧ W'.cell? ⟨B, 2, none⟩ = some (.int .u64 5) ∧ W'.cell? ⟨g, q, none⟩ = some (.int .u64 9) ∧ W'.cell? ⟨g, q + 1, none⟩ = some (.int .u64 3) ∧ W'.cell? ⟨g, q + 2, none⟩ = some (.int .u64 5))
    (exact HS.out _ (by (repeat (first | (with_reducible refine Kept.setCell ?_ ?_ _) | (with_reducible refine Kept.alloc ?_ _) | (with_reducible refine Kept.drew ?_))); (first | (with_reducible assumption) | (with_reducible exact Kept.refl _ _) | exact Kept.weaken (l := []) (by with_reducible assumption) (by simp)); all_goals (first | exact Or.inr (Nat.le_refl _) | (refine Or.inr (Kept.size (l := []) ?_); assumption) | (refine Or.inl ?_; simp; done))))
    (first
      | (go_at_call 10; (with_reducible change Calls _ _ #[_, Value.slice _ 3 _] _ _); (with_reducible refine Calls.mono (H1.out _ _ ?k1 ?z1) ?_); (case k1 => (repeat (first | (with_reducible refine Kept.setCell ?_ ?_ _) | (with_reducible refine Kept.alloc ?_ _) | (with_reducible refine Kept.drew ?_))); (first | (with_reducible assumption) | (with_reducible exact Kept.refl _ _) | exact Kept.weaken (l := []) (by with_reducible assumption) (by simp)); all_goals (first | exact Or.inr (Nat.le_refl _) | (refine Or.inr (Kept.size (l := []) ?_); assumption) | (refine Or.inl ?_; simp; done))); (case z1 => first | with_reducible exact blk_alloc_new _ _ | with_reducible exact blk_new_drew _ _); rintro o w1 ⟨rfl, K1⟩)
      | (go_at_call 10; (with_reducible change Calls _ _ #[_, Value.slice _ 2 _] _ _); (with_reducible refine Calls.mono (H2.out _ _ ?k2 ?z2) ?_); (case k2 => (repeat (first | (with_reducible refine Kept.setCell ?_ ?_ _) | (with_reducible refine Kept.alloc ?_ _) | (with_reducible refine Kept.drew ?_))); (first | (with_reducible assumption) | (with_reducible exact Kept.refl _ _) | exact Kept.weaken (l := []) (by with_reducible assumption) (by simp)); all_goals (first | exact Or.inr (Nat.le_refl _) | (refine Or.inr (Kept.size (l := []) ?_); assumption) | (refine Or.inl ?_; simp; done))); (case z2 => first | with_reducible exact blk_alloc_new _ _ | with_reducible exact blk_new_drew _ _); rintro o w2 ⟨rfl, K2⟩)
      | (go_at_call 10; (with_reducible change Calls _ _ #[_, Value.slice _ 1 _] _ _); (with_reducible refine Calls.mono (H3.out _ _ ?k3 ?z3) ?_); (case k3 => (repeat (first | (with_reducible refine Kept.setCell ?_ ?_ _) | (with_reducible refine Kept.alloc ?_ _) | (with_reducible refine Kept.drew ?_))); (first | (with_reducible assumption) | (with_reducible exact Kept.refl _ _) | exact Kept.weaken (l := []) (by with_reducible assumption) (by simp)); all_goals (first | exact Or.inr (Nat.le_refl _) | (refine Or.inr (Kept.size (l := []) ?_); assumption) | (refine Or.inl ?_; simp; done))); (case z3 => first | with_reducible exact blk_alloc_new _ _ | with_reducible exact blk_new_drew _ _); rintro o w3 ⟨rfl, K3⟩)
      | (go_at_call 10; (with_reducible change Calls _ _ #[_, Value.slice _ 0 _] _ _); (with_reducible refine Calls.mono (H4.out _ ?k4) ?_); (case k4 => (repeat (first | (with_reducible refine Kept.setCell ?_ ?_ _) | (with_reducible refine Kept.alloc ?_ _) | (with_reducible refine Kept.drew ?_))); (first | (with_reducible assumption) | (with_reducible exact Kept.refl _ _) | exact Kept.weaken (l := []) (by with_reducible assumption) (by simp)); all_goals (first | exact Or.inr (Nat.le_refl _) | (refine Or.inr (Kept.size (l := []) ?_); assumption) | (refine Or.inl ?_; simp; done))); rintro o w4 ⟨rfl, K4⟩))
  all_goals
    go_wp2
    go_ret
    exact ⟨rfl, HF.out.trans K4⟩
end Go.Proofs.Ytheheepblkhfaaa
