/-
  The document's own op of a map: Range.
-/
import Derived.Test.YtapbkonfjieadaaQRDo
import Derived.BigRegion
import Derived.Deep.RegionLaw
namespace Go.Proofs.Ytapbkonfjieadaa.Q
set_option maxRecDepth 100000
open Go.RowKit
open Go.Deep
set_option maxHeartbeats 4000000 in
theorem rdo_range (ao : Option Addr) (ps : List Pr) (n cap : Nat) (op : OpQ) (w : World) (h : MpV w ao n cap ps) (_hst : Str ps) (hl : n ≤ 1000) (hd : op.d = 5) :
    Calls Try.prog 18 #[.slice ao n cap, .agg #[.int .i64 op.d, .int .u64 op.k, .int .u64 op.v, .int .i64 op.n, .int .i64 op.t]] w fun o w' => RDoP w ps op o w' := by
  have e1 : doM ps op = ps := by unfold doM; rw [if_neg (by omega), if_neg (by omega)]
  have e2 : doH ps op = false := by unfold doH; rw [if_neg (by omega), if_neg (by omega)]
  have e3 : doG ps op = 0 := by unfold doG; rw [if_neg (by omega), if_neg (by omega)]
  have e4 : doK ps op = rgK ps op.k op.v op.n := by unfold doK; rw [if_pos hd]
  have EE : Hid _ := And.intro e1 (And.intro e2 (And.intro e3 e4))
  clear e1 e2 e3 e4
  obtain ⟨d, k, v, nn, t⟩ := op
  simp only at hd
  subst hd
  have D0 := Rb.new w ⟨5, k, v, nn, t⟩
  have HM : Hid (MpV w ao n cap ps) := h
  clear h
  obtain ⟨i0, hi, hz0, hz1, hz2⟩ := info_parts info_u64
  go_enter Try.func18, Try.ntmps18
  go_wp2
  obtain ⟨W, hW⟩ : ∃ W, W = ((w.alloc (.cells #[.int .i64 5, .int .u64 k, .int .u64 v, .int .i64 nn, .int .i64 t] 38)).alloc (.cells #[.bool false, .bool false, .int .u64 0, .slice none 0 0] 41)) := ⟨_, rfl⟩
  obtain ⟨H, hH⟩ : ∃ H, H = w.heap.size := ⟨_, rfl⟩
  have D : Rb w W H ⟨5, k, v, nn, t⟩ := by rw [hW, hH]; exact D0
  have hWs : W.heap.size = H + 1 + 1 := by rw [hW, hH]; simp only [nblk_alloc]
  have ZB := blk_alloc_new W (.cells #[.bool false, .bool false, .int .u64 0, .slice none 0 0] 41)
  rw [hWs] at ZB
  have KB : Kept [] W (W.alloc (.cells #[.bool false, .bool false, .int .u64 0, .slice none 0 0] 41)) := (Kept.refl _ _).alloc _
  have DB := D.kept' KB
  have hBs : (W.alloc (.cells #[.bool false, .bool false, .int .u64 0, .slice none 0 0] 41)).heap.size = H + 1 + 1 + 1 := by rw [nblk_alloc, hWs]
  rw [← hW, ← hH]
  generalize W.alloc (.cells #[.bool false, .bool false, .int .u64 0, .slice none 0 0] 41) = U at ZB DB hBs ⊢
  clear D0 hW D KB hWs W
  have HHs : Hid _ := hBs
  clear hBs hH
  go_loopw [8] (fun i wr => ∃ (j : Nat) (ko : Option Addr) (kn kc : Nat), j ≤ n ∧ i = .int .i64 j ∧ wr.heap[H + 1 + 1]? = some (.cells #[.bool false, .bool false, .int .u64 0, .slice ko kn kc] 41 (0, 0)) ∧ Hid (kn = (rgK (ps.take j) k v nn).length ∧ OwnW wr (H + 1 + 1 + 1) (.slice ko kn kc) (rgK (ps.take j) k v nn)) ∧ Kept [H + 1 + 1] U wr) (fun i _ => n - (intOf i).toNat)
  case atStart => exact ⟨0, none, 0, 0, Nat.zero_le _, rfl, ZB, ⟨by simp [rgK, nbl], ⟨by simp, Or.inl ⟨rfl, by simp [rgK, nbl]⟩⟩⟩, Kept.refl _ _⟩
  case round =>
    obtain ⟨j, ko, kn, kc, hj, rfl, Z, O, K⟩ := hrel
    have KD : Hid (∀ W', Kept [H + 1 + 1] U W' → Rb w W' H ⟨5, k, v, nn, t⟩) := fun W' K' =>
      ⟨K'.blk DB.z1 (by simp; omega), K'.blk DB.z3 (by simp), DB.kept.then K' (by intro x hx; right; have := DB.le; simp at hx; omega), DB.le⟩
    have MX : Hid (∀ W', Kept [H + 1 + 1] U W' → MpV W' ao n cap ps) := fun W' K' => MpV.new HM.out (KD.out W' K').kept
    by_cases hlt : j < n
    · have hjx : j < ps.length := by have := HM.out.1; omega
      obtain ⟨b1, o1, rfl, -, -⟩ := SlP.row (MX.out wr K).2.1 hjx
      have NX : Hid _ := rgK_next (a := k) (b := v) (n := nn) hjx
      obtain ⟨x, hx0⟩ : ∃ x, ps.getD j default = x := ⟨_, rfl⟩
      rw [hx0] at NX
      have FX : Hid (∀ W', Kept [H + 1 + 1] U W' → W'.cell? ⟨b1, o1 + j * 2, none⟩ = some (.int .u64 x.k) ∧ W'.cell? ⟨H, 1, none⟩ = some (.int .u64 k) ∧ W'.cell? ⟨H, 2, none⟩ = some (.int .u64 v) ∧ W'.cell? ⟨H, 3, none⟩ = some (.int .i64 nn)) := fun W' K' => by
        obtain ⟨b2, o2, e2, -, d0, -⟩ := SlP.row (MX.out W' K').2.1 hjx
        cases e2; rw [hx0] at d0
        have D2 := KD.out W' K'
        exact ⟨d0, cell_of_blk D2.z1 (i := 1) rfl, cell_of_blk D2.z1 (i := 2) rfl, cell_of_blk D2.z1 (i := 3) rfl⟩
      clear hx0
      have KL := O.out.1
      rw [← KL] at NX
      have HKL : Hid _ := KL
      clear KL
      have c0 := (FX.out wr K).1
      have c1 := (FX.out wr K).2.1
      have c2 := (FX.out wr K).2.2.1
      have c3 := (FX.out wr K).2.2.2
      have q3 := cell_of_blk Z (i := 3) rfl
      by_cases g1 : k ≤ x.k
      · have t1 : decide (k ≤ x.k) = true := decide_eq_true g1
        by_cases g2 : x.k ≤ v
        · have t2 : decide (x.k ≤ v) = true := decide_eq_true g2
          by_cases g3 : (kn : Int) < nn
          · have t3 : decide ((kn : Int) < nn) = true := decide_eq_true g3
            have EQ : Hid _ := NX.out.1 ⟨g1, g2, g3⟩
            go_wp2_with fail
            go_quiet (fail)
            have K2 := K.drewN nq
            have Z2 := ((Kept.refl [] wr).drewN nq).blk Z (by simp)
            have O2 := OwnW.new O.out.2 ((Kept.refl [] wr).drewN nq)
            generalize wr.drewN nq = W2 at K2 Z2 O2 ⊢
            clear c0 c1 c2 c3 q3 nq K Z
            have c0 := (FX.out W2 K2).1
            have q3 := cell_of_blk Z2 (i := 3) rfl
            have hB3 : H + 1 + 1 + 1 ≤ W2.heap.size := by rw [← HHs.out]; exact K2.size
            have hB4 : H + 1 + 1 < W2.heap.size := by omega
            have hB5 : ¬ H + 1 + 1 = W2.heap.size := by omega
            have hB6 : ¬ W2.heap.size = H + 1 + 1 := by omega
            have hb7 : b1 < W2.heap.size := lt_of_cell c0
            have hkn : kn ≤ 1000 := by rw [HKL.out]; unfold rgK nbl; rw [List.length_take, List.length_map]; have a1 := List.length_filter_le (fun p : Pr => decide (p.k ≤ v)) ((ps.take j).filter (fun q => decide (k ≤ q.k))); have a2 := List.length_filter_le (fun q : Pr => decide (k ≤ q.k)) (ps.take j); rw [List.length_take] at a2; omega
            have hrl : (rgK (ps.take j) k v nn).length ≤ 1000 := by rw [← HKL.out]; exact hkn
            generalize rgK (ps.take j) k v nn = R at O2 hrl EQ
            go_wp2_with fail
            go_region_law ((refine step_append_lies _ (by rfl) _ _ 39 (by rfl) (H + 1 + 1 + 1) 36 i0 (.int .u64 0) 1 8 Try.underlying39 hi hz0 hz1 hz2 rfl (by decide) _ _ _ (by rfl) (OwnW.new O2 (by (repeat (first | (with_reducible refine Kept.alloc ?_ _) | (with_reducible refine Kept.drew ?_))); exact Kept.refl _ _)) ⟨W2.heap.size, 0, none⟩ 1 1 [.int .u64 x.k] (by rfl) rfl (World.news_of_block (blk_alloc_new _ _)) (by simp [Value.oneCell']) (by omega) (by unfold maxLen; omega) (by omega) (by simp; omega) _ rfl ?_; intro g cap' w3 hown hgrow hat hlt2; have Z3 := grow_keep (by (repeat (first | (with_reducible refine Kept.alloc ?_ _) | (with_reducible refine Kept.drew ?_))); exact Kept.refl _ _) hgrow O2 (by omega) Z2; have q4 := cell_of_blk Z3 (i := 3) rfl; have f4 := free_of_blk Z3 3; have K3 := grow_kept K2 (by (repeat (first | (with_reducible refine Kept.alloc ?_ _) | (with_reducible refine Kept.drew ?_))); exact Kept.refl _ _) hgrow (by rw [HHs.out]; exact O2)))
            all_goals
              go_wp2
              refine ⟨⟨j + 1, _, _, _, by omega, by go_num, blk_set Z3 3 _, ⟨?_, ?_⟩, K3.setCell (p := ⟨H + 1 + 1, 3, none⟩) (Or.inl (by simp)) _⟩, by simp [intOf]; omega⟩
              · rw [EQ.out]; simp
              · rw [EQ.out]
                have O4 : OwnW w3 (H + 1 + 1 + 1) (.slice (some ⟨g, 0, none⟩) (R.length + 1) cap') (R ++ [x.k]) := by unfold OwnW; rw [List.length_append, List.map_append]; exact hown
                exact O4.kept ((Kept.refl [H + 1 + 1] w3).setCell (p := ⟨H + 1 + 1, 3, none⟩) (Or.inl (by simp)) _) (fun g' e => by have := (World.ownsRow.lt O4 g' e).1; simp; omega)
          · have t3 : decide ((kn : Int) < nn) = false := decide_eq_false g3
            have EQ : Hid _ := NX.out.2 (by omega)
            go_wp2_with fail
            go_quiet (fail)
            go_wp2
            go_roundw
            case rel => exact ⟨j + 1, ko, kn, kc, by omega, by go_num, ((Kept.refl [] wr).drewN nq).blk Z (by simp), (by rw [EQ.out]; exact ⟨O.out.1, O.out.2.new ((Kept.refl [] wr).drewN nq)⟩), K.drewN _⟩
            case measure => simp [intOf]; omega
        · have t2 : decide (x.k ≤ v) = false := decide_eq_false g2
          have EQ : Hid _ := NX.out.2 (by omega)
          go_wp2_with fail
          go_quiet (fail)
          go_wp2
          go_roundw
          case rel => exact ⟨j + 1, ko, kn, kc, by omega, by go_num, ((Kept.refl [] wr).drewN nq).blk Z (by simp), (by rw [EQ.out]; exact ⟨O.out.1, O.out.2.new ((Kept.refl [] wr).drewN nq)⟩), K.drewN _⟩
          case measure => simp [intOf]; omega
      · have t1 : decide (k ≤ x.k) = false := decide_eq_false g1
        have EQ : Hid _ := NX.out.2 (by omega)
        go_wp2_with fail
        go_quiet (fail)
        go_wp2
        go_roundw
        case rel => exact ⟨j + 1, ko, kn, kc, by omega, by go_num, ((Kept.refl [] wr).drewN nq).blk Z (by simp), (by rw [EQ.out]; exact ⟨O.out.1, O.out.2.new ((Kept.refl [] wr).drewN nq)⟩), K.drewN _⟩
        case measure => simp [intOf]; omega
    · have e2 : ps.take j = ps := List.take_of_length_le (by have := HM.out.1; omega)
      rw [e2] at O
      have D1 := KD.out wr K
      have q0 := cell_of_blk Z (i := 0) rfl
      have q1 := cell_of_blk Z (i := 1) rfl
      have q2 := cell_of_blk Z (i := 2) rfl
      have q3 := cell_of_blk Z (i := 3) rfl
      have s1 := cell_of_blk D1.z3 (i := 0) rfl
      have s2 := cell_of_blk D1.z3 (i := 1) rfl
      have s3 := cell_of_blk D1.z3 (i := 2) rfl
      have s4 := cell_of_blk D1.z3 (i := 3) rfl
      have f1 := free_of_blk D1.z3
      obtain ⟨k2, c2, eS, SL, hbk⟩ := O.out.2.shape
      have hko : ko = k2 := by cases eS; rfl
      rw [← hko] at SL hbk
      have MM := MX.out wr K
      have HX : Hid _ := And.intro SL (And.intro hbk MM)
      clear eS SL hbk hko MM
      go_wp2_with fail
      go_region
      all_goals
        go_wp2
        have F := D1.fin (bo := ao) (m := n) (cb := cap) (h := false) (g := 0) (ko := ko) (kn := kn) (kc := kc) HX.out.2.2 HX.out.1 (fun ad e => by have := HX.out.2.1 ad e; omega)
        have F1 : MpV (rEnd wr H false 0 ko kn kc).drew ao n cap ps := F.1
        have F2 := F.2.1.new ((Kept.refl [] _).drew)
        have F3 := F.2.2.1.drew
        have F5 : (rEnd wr H false 0 ko kn kc).drew.heap[H + 1]? = some (.cells #[.bool false, .bool false, .int .u64 0, .slice ko kn kc] 41 (0, 0)) := F.2.2.2
        clear F
        unfold rEnd at F1 F2 F3 F5
        have y0 := cell_of_blk F5 (i := 0) rfl
        have y1 := cell_of_blk F5 (i := 1) rfl
        have y2 := cell_of_blk F5 (i := 2) rfl
        have y3 := cell_of_blk F5 (i := 3) rfl
        refine bodyPost_ret (v := .tuple #[.slice ao n cap, .agg #[.bool false, .bool false, .int .u64 0, .slice ko kn kc]]) (by simp [results, Try.results18, go_sem, y0, y1, y2, y3]; done) rfl ?_
        exact ⟨ao, n, cap, ko, kn, kc, by rw [EE.out.2.1, EE.out.2.2.1], by rw [EE.out.1]; exact F1, by rw [EE.out.2.2.2]; exact O.out.1, by rw [EE.out.2.2.2]; exact F2, F3⟩
end Go.Proofs.Ytapbkonfjieadaa.Q
