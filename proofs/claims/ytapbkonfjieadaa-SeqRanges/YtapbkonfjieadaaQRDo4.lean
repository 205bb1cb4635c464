/-
  The document's own op of a map: Ceiling.
-/
import Derived.Test.YtapbkonfjieadaaQRDo
import Derived.BigRegion
import Derived.Deep.RegionLaw
namespace Go.Proofs.Ytapbkonfjieadaa.Q
set_option maxRecDepth 100000
open Go.RowKit
open Go.Deep
set_option maxHeartbeats 4000000 in
theorem rdo_ceil (ao : Option Addr) (ps : List Pr) (n cap : Nat) (op : OpQ) (w : World) (h : MpV w ao n cap ps) (_hst : Str ps) (hl : n ≤ 1000) (hd : op.d = 4) :
    Calls Try.prog 18 #[.slice ao n cap, .agg #[.int .i64 op.d, .int .u64 op.k, .int .u64 op.v, .int .i64 op.n, .int .i64 op.t]] w fun o w' => RDoP w ps op o w' := by
  have e1 : doM ps op = ps := by unfold doM; rw [if_neg (by omega), if_neg (by omega)]
  have e2 : doH ps op = clH ps op.k := by unfold doH; rw [if_neg (by omega), if_pos hd]
  have e3 : doG ps op = clV ps op.k := by unfold doG; rw [if_neg (by omega), if_pos hd]
  have e4 : doK ps op = [] := by unfold doK; rw [if_neg (by omega)]
  have EE : Hid _ := And.intro e1 (And.intro e2 (And.intro e3 e4))
  clear e1 e2 e3 e4
  obtain ⟨d, k, v, nn, t⟩ := op
  simp only at hd
  subst hd
  have D0 := Rb.new w ⟨4, k, v, nn, t⟩
  have HM : Hid (MpV w ao n cap ps) := h
  clear h
  go_enter Try.func18, Try.ntmps18
  go_wp2
  refine gen_world (fun W => Rb w W w.heap.size ⟨4, k, v, nn, t⟩) D0 ?_
  clear D0
  intro W D
  obtain ⟨H, hH⟩ : ∃ H, H = w.heap.size := ⟨_, rfl⟩
  rw [← hH] at D ⊢
  clear hH
  go_loopw [6] (fun i wr => ∃ j : Nat, j ≤ n ∧ i = .int .i64 j ∧ Hid (nbl (ps.take j) k = []) ∧ Kept [] W wr) (fun i _ => n - (intOf i).toNat)
  case atStart => exact ⟨0, Nat.zero_le _, rfl, rfl, Kept.refl _ _⟩
  case round =>
    obtain ⟨j, hj, rfl, N, K⟩ := hrel
    have D1 := D.kept' K
    have z0 := cell_of_blk D1.z1 (i := 1) rfl
    by_cases hlt : j < n
    · have hjx : j < ps.length := by have := HM.out.1; omega
      obtain ⟨b1, o1, rfl, -, -⟩ := SlP.row (HM.out.2.1.new (D.kept.trans K)) hjx
      have NX : Hid _ := nbl_next (k := k) hjx N.out
      obtain ⟨x, hx0⟩ : ∃ x, ps.getD j default = x := ⟨_, rfl⟩
      rw [hx0] at NX
      have FX : Hid (∀ W', Kept [] W W' → W'.cell? ⟨b1, o1 + j * 2, none⟩ = some (.int .u64 x.k)) := fun W' K' => by
        obtain ⟨b2, o2, e2, -, d0, -⟩ := SlP.row (HM.out.2.1.new (D.kept.trans K')) hjx
        cases e2; rw [hx0] at d0; exact d0
      clear hx0
      have c0 := FX.out wr K
      by_cases hq : k ≤ x.k
      · have hqd : decide (k ≤ x.k) = true := decide_eq_true hq
        have s1 := cell_of_blk D1.z3 (i := 0) rfl
        have s2 := cell_of_blk D1.z3 (i := 1) rfl
        have s3 := cell_of_blk D1.z3 (i := 2) rfl
        have s4 := cell_of_blk D1.z3 (i := 3) rfl
        have f1 := free_of_blk D1.z3
        have hf : (nbl ps k).head? = some x := NX.out.1 hq
        have hcA : clH ps k = true := by unfold clH; rw [hf]; rfl
        have hcB : clV ps k = x.k := by unfold clV; rw [hf]
        simp only [hcA, hcB] at EE
        have HF : Hid _ := And.intro hf (And.intro hcA hcB)
        clear hf hcA hcB
        go_wp2_with fail
        go_quiet (fail)
        have D2 := D1.kept' ((Kept.refl [] wr).drewN nq)
        have K2 := K.drewN nq
        generalize wr.drewN nq = W2 at D2 K2 ⊢
        clear s1 s2 s3 s4 f1 c0 nq
        have c0 := FX.out W2 K2
        have s1 := cell_of_blk D2.z3 (i := 0) rfl
        have s2 := cell_of_blk D2.z3 (i := 1) rfl
        have s3 := cell_of_blk D2.z3 (i := 2) rfl
        have s4 := cell_of_blk D2.z3 (i := 3) rfl
        have f1 := free_of_blk D2.z3
        go_wp2_with fail
        go_region
        all_goals
          go_wp2
          have F := D2.fin (bo := (some ⟨b1, o1, none⟩)) (m := n) (cb := cap) (h := true) (g := x.k) (ko := none) (kn := 0) (kc := 0) (MpV.new HM.out (D.kept.trans K2)) (ks := []) (fun h => absurd h (by simp)) (by simp)
          have F1 : MpV (rEnd W2 H true x.k none 0 0).drew (some ⟨b1, o1, none⟩) n cap ps := F.1
          have F2 := F.2.1.new ((Kept.refl [] _).drew)
          have F3 := F.2.2.1.drew
          have F5 : (rEnd W2 H true x.k none 0 0).drew.heap[H + 1]? = some (.cells #[.bool false, .bool true, .int .u64 x.k, .slice none 0 0] 41 (0, 0)) := F.2.2.2
          clear F
          unfold rEnd at F1 F2 F3 F5
          have y0 := cell_of_blk F5 (i := 0) rfl
          have y1 := cell_of_blk F5 (i := 1) rfl
          have y2 := cell_of_blk F5 (i := 2) rfl
          have y3 := cell_of_blk F5 (i := 3) rfl
          refine bodyPost_ret (v := .tuple #[.slice (some ⟨b1, o1, none⟩) n cap, .agg #[.bool false, .bool true, .int .u64 x.k, .slice none 0 0]]) (by simp [results, Try.results18, go_sem, y0, y1, y2, y3]; done) rfl ?_
          exact ⟨(some ⟨b1, o1, none⟩), n, cap, none, 0, 0, by rw [EE.out.2.1, EE.out.2.2.1], by rw [EE.out.1]; exact F1, by rw [EE.out.2.2.2]; exact rfl, by rw [EE.out.2.2.2]; exact F2, F3⟩
      · have hqd : decide (k ≤ x.k) = false := decide_eq_false hq
        go_wp2_with fail
        go_quiet (fail)
        go_wp2
        go_roundw
        case rel => exact ⟨j + 1, by omega, by go_num, NX.out.2 hq, K.drewN _⟩
        case measure => simp [intOf]; omega
    · have e2 : ps.take j = ps := List.take_of_length_le (by have := HM.out.1; omega)
      rw [e2] at N
      have hf : nbl ps k = [] := N.out
      have hcA : clH ps k = false := by unfold clH; rw [hf]; rfl
      have hcB : clV ps k = 0 := by unfold clV; rw [hf]; rfl
      simp only [hcA, hcB] at EE
      have s1 := cell_of_blk D1.z3 (i := 0) rfl
      have s2 := cell_of_blk D1.z3 (i := 1) rfl
      have s3 := cell_of_blk D1.z3 (i := 2) rfl
      have s4 := cell_of_blk D1.z3 (i := 3) rfl
      have f1 := free_of_blk D1.z3
      clear hf hcA hcB
      go_wp2
      have F := D1.fin (bo := ao) (m := n) (cb := cap) (h := false) (g := 0) (ko := none) (kn := 0) (kc := 0) (MpV.new HM.out (D.kept.trans K)) (ks := []) (fun h => absurd h (by simp)) (by simp)
      unfold rEnd at F
      obtain ⟨F1, F2, F3, F5⟩ := F
      have y0 := cell_of_blk F5 (i := 0) rfl
      have y1 := cell_of_blk F5 (i := 1) rfl
      have y2 := cell_of_blk F5 (i := 2) rfl
      have y3 := cell_of_blk F5 (i := 3) rfl
      refine bodyPost_ret (v := .tuple #[.slice ao n cap, .agg #[.bool false, .bool false, .int .u64 0, .slice none 0 0]]) (by simp [results, Try.results18, go_sem, y0, y1, y2, y3]; done) rfl ?_
      exact ⟨ao, n, cap, none, 0, 0, by rw [EE.out.2.1, EE.out.2.2.1], by rw [EE.out.1]; exact F1, by rw [EE.out.2.2.2]; exact rfl, by rw [EE.out.2.2.2]; exact F2, F3⟩
end Go.Proofs.Ytapbkonfjieadaa.Q
