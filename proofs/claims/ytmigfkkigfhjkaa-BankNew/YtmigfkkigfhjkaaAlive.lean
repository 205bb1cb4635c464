/-
  The small call that each law of bank ends with answers true, in any world, and leaves what was there.
-/
import Derived.Test.YtmigfkkigfhjkaaMake
namespace Go.Proofs.Ytmigfkkigfhjkaa
open Go.RowKit (Grown Hid Below)
open Go.Deep
set_option maxRecDepth 100000 in
theorem alive_any (w : World) : Calls Try.prog 9 #[] w fun e w' => e = .returned (.bool true) ∧ Kept [] w w' := by
  go_enter Try.func9, Try.ntmps9
  go_wp2_with fail
  refine (new_any 2 w).mono ?_
  rintro e w1 ⟨p, rfl, hp, B1, T1⟩
  rw [show List.replicate (newN 2) (0 : Int) = [0, 0] from rfl] at B1
  obtain ⟨r, hr⟩ : ∃ r, r = w.heap.size := ⟨_, rfl⟩
  rw [← hr] at B1
  have hr' : w.heap.size ≤ r := by omega
  clear hr
  go_wp2_with fail
  refine (add_at p r [0, 0] 0 Acc.zero 1 9 5 ⟨4, 1, 9, 0, 5, true⟩ [0, 5] _ B1 rfl rfl (by decide) (by decide)).mono ?_
  rintro e w2 ⟨rfl, B2, K2⟩
  have T2 := T1.own K2 hp hr'
  go_wp2_with fail
  refine (swap_at p r [0, 5] _ _ 1 9 5 7 ⟨3, 1, 9, 5, 7, true⟩ [0, 7] _ B2 rfl rfl (by decide) (by decide)).mono ?_
  rintro e w3 ⟨rfl, B3, K3⟩
  have T3 := T2.own K3 hp hr'
  go_wp2_with fail
  refine (load_at p r [0, 7] _ _ 1 9 ⟨1, 1, 9, 7, 7, true⟩ [0, 7] _ B3 rfl rfl (by decide) (by decide)).mono ?_
  rintro e w4 ⟨rfl, B4, K4⟩
  have T4 := T3.own K4 hp hr'
  go_wp2_with fail
  refine (swap_at p r [0, 7] _ _ 1 9 5 8 ⟨3, 1, 9, 7, 7, false⟩ [0, 7] _ B4 rfl rfl (by decide) (by decide)).mono ?_
  rintro e w5 ⟨rfl, B5, K5⟩
  have T5 := T4.own K5 hp hr'
  go_wp2_with fail
  refine (load_at p r [0, 7] _ _ 2 9 ⟨1, 2, 9, 0, 0, false⟩ [0, 7] _ B5 rfl rfl (by decide) (by decide)).mono ?_
  rintro e w6 ⟨rfl, B6, K6⟩
  have T6 := T5.own K6 hp hr'
  go_wp2_with fail
  refine (store_at p r [0, 7] _ _ 0 3 4 ⟨2, 0, 3, 0, 4, true⟩ [4, 7] _ B6 rfl rfl (by decide) (by decide)).mono ?_
  rintro e w7 ⟨rfl, B7, K7⟩
  have T7 := T6.own K7 hp hr'
  clear B1 B2 B3 B4 B5 B6 K2 K3 K4 K5 K6 K7 T1 T2 T3 T4 T5 T6
  go_wp2_with fail
  refine (cells_any p r [4, 7] _ _ _ B7).mono ?_
  rintro e w8 ⟨rfl, R8, K8⟩
  generalize w7.heap.size = q at R8 ⊢
  have B8 := B7.kept K8 (by simp) (by simp)
  have T8 := T7.trans K8
  go_wp2_with fail
  refine (count_any p r _ _ _ _ B8).mono ?_
  rintro e w9 ⟨rfl, rfl⟩
  go_wp2_with fail
  refine (last_any p r _ _ _ _ B8).mono ?_
  rintro e w10 ⟨rfl, K10⟩
  have R10 := R8.kept K10 (by simp)
  have q0 : w10.cell? ⟨q, 0, none⟩ = some (.int .u64 4) := R10.cell (i := 0) (by decide)
  simp only [Acc.val]
  go_wp2
  go_ret
  exact ⟨rfl, T8.trans K10⟩
end Go.Proofs.Ytmigfkkigfhjkaa
