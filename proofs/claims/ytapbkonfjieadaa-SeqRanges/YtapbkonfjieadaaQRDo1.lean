/-
  The document's own op of a map: Get.
-/
import Derived.Test.YtapbkonfjieadaaQRDo
import Derived.BigRegion
import Derived.Deep.RegionLaw
namespace Go.Proofs.Ytapbkonfjieadaa.Q
set_option maxRecDepth 100000
open Go.RowKit
open Go.Deep
set_option maxHeartbeats 4000000 in
theorem rdo_get (ao : Option Addr) (ps : List Pr) (n cap : Nat) (op : OpQ) (w : World) (h : MpV w ao n cap ps) (_hst : Str ps) (hl : n ≤ 1000) (hd : op.d = 1) :
    Calls Try.prog 18 #[.slice ao n cap, .agg #[.int .i64 op.d, .int .u64 op.k, .int .u64 op.v, .int .i64 op.n, .int .i64 op.t]] w fun o w' => RDoP w ps op o w' := by
  obtain ⟨A, hA⟩ : ∃ A, gtH ps op.k = A := ⟨_, rfl⟩
  obtain ⟨B, hB⟩ : ∃ B, gtV ps op.k = B := ⟨_, rfl⟩
  have e1 : doM ps op = ps := by unfold doM; rw [if_neg (by omega), if_neg (by omega)]
  have e2 : doH ps op = A := by unfold doH; rw [if_pos (Or.inl hd)]; exact hA
  have e3 : doG ps op = B := by unfold doG; rw [if_pos (Or.inl hd)]; exact hB
  have e4 : doK ps op = [] := by unfold doK; rw [if_neg (by omega)]
  have EE : Hid _ := And.intro e1 (And.intro e2 (And.intro e3 e4))
  clear e1 e2 e3 e4
  obtain ⟨d, k, v, nn, t⟩ := op
  simp only at hd
  subst hd
  have D0 := Rb.new w ⟨1, k, v, nn, t⟩
  obtain ⟨W, hW⟩ : ∃ W, W = ((w.alloc (.cells #[.int .i64 1, .int .u64 k, .int .u64 v, .int .i64 nn, .int .i64 t] 38)).alloc (.cells #[.bool false, .bool false, .int .u64 0, .slice none 0 0] 41)) := ⟨_, rfl⟩
  have D : Rb w W w.heap.size ⟨1, k, v, nn, t⟩ := by rw [hW]; exact D0
  have hc := rget_any ao ps n cap k W (h.new D.kept) hl
  rw [hA, hB] at hc
  have HM : Hid (MpV w ao n cap ps) := h
  clear D0 h hA hB
  rw [hW] at hc
  go_enter Try.func18, Try.ntmps18
  go_wp2_with fail
  refine hc.mono ?_
  rintro o w5 ⟨rfl, K5⟩
  rw [← hW] at K5
  clear hc hW
  have s1 := cell_of_blk (K5.blk D.z3 (by simp)) (i := 0) rfl; have s2 := cell_of_blk (K5.blk D.z3 (by simp)) (i := 1) rfl; have s3 := cell_of_blk (K5.blk D.z3 (by simp)) (i := 2) rfl; have s4 := cell_of_blk (K5.blk D.z3 (by simp)) (i := 3) rfl; have f1 := free_of_blk (K5.blk D.z3 (by simp))
  go_wp2
  have F := (D.kept' K5).fin (bo := ao) (m := n) (cb := cap) (h := A) (g := B) (ko := none) (kn := 0) (kc := 0) (MpV.new HM.out (D.kept.trans K5)) (ks := []) (fun h => absurd h (by simp)) (by simp)
  unfold rEnd at F
  obtain ⟨F1, F2, F3, F5⟩ := F
  have y0 := cell_of_blk F5 (i := 0) rfl
  have y1 := cell_of_blk F5 (i := 1) rfl
  have y2 := cell_of_blk F5 (i := 2) rfl
  have y3 := cell_of_blk F5 (i := 3) rfl
  refine bodyPost_ret (v := .tuple #[.slice ao n cap, .agg #[.bool false, .bool A, .int .u64 B, .slice none 0 0]]) (by simp [results, Try.results18, go_sem, y0, y1, y2, y3]; done) rfl ?_
  exact ⟨ao, n, cap, none, 0, 0, by rw [EE.out.2.1, EE.out.2.2.1], by rw [EE.out.1]; exact F1, by rw [EE.out.2.2.2]; exact rfl, by rw [EE.out.2.2.2]; exact F2, F3⟩
end Go.Proofs.Ytapbkonfjieadaa.Q
