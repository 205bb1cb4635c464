/-
  The statements' own example: a key that is put twice.
-/
import Derived.Test.YtapbkonfjieadaaQDoAll
import Derived.Test.YtapbkonfjieadaaQSame
namespace Go.Proofs.Ytapbkonfjieadaa.Q
set_option maxRecDepth 100000
open Go.RowKit
open Go.Deep
theorem MpV.setMap {w : World} {ao : Option Addr} {n cap : Nat} {ps : List Pr} (M : MpV w ao n cap ps) {B : Nat} {a : Option Addr} {m c : Nat} {T : TypeId} (Z : w.heap[B]? = some (.cells #[.slice a m c] T (0, 0))) (u : Value) : MpV (w.setCell ⟨B, 0, none⟩ u) ao n cap ps :=
  ⟨M.1, SlP.setMap M.2.1 Z u, M.2.2⟩
theorem blk_far {w : World} {B H i : Nat} {o : Obj} {u : Value} (Z : w.heap[B]? = some o) (h : ¬ B = H) : (w.setCell ⟨H, i, none⟩ u).heap[B]? = some o := by
  rw [blk_setCell_other _ _ _ _ (fun e => h e)]; exact Z
theorem Sl.far {w w' : World} {ko : Option Addr} {ks : List Int} (h : Sl w ko ks) (k : Kept [] w w') : Sl w' ko ks := h.new k
set_option maxHeartbeats 8000000 in
theorem alive_any (w : World) : Calls Try.prog 9 #[] w fun o w' => o = .returned (.bool true) ∧ Kept [] w w' := by
  have K0 : Kept [] w (w.alloc (.cells #[.slice none 0 0] 26)) := (Kept.refl _ _).alloc _
  have Z0 := blk_alloc_new w (.cells #[.slice none 0 0] 26)
  have hW0 : (w.alloc (.cells #[.slice none 0 0] 26)).heap.size = w.heap.size + 1 := nblk_alloc _ _
  have M0 : MpV (w.alloc (.cells #[.slice none 0 0] 26)) none 0 0 [] := MpV.nil _
  go_enter Try.func9, Try.ntmps9
  go_upto_region 2 with (fail)
  obtain ⟨H, hH⟩ : ∃ H, H = w.heap.size := ⟨_, rfl⟩
  rw [← hH] at Z0 hW0 ⊢
  refine gen_world (fun W => W.heap[H]? = some (.cells #[.slice none 0 0] 26 (0, 0)) ∧ Hid (MpV W none 0 0 []) ∧ H < W.heap.size ∧ Kept [] w W) ⟨Z0, M0, by omega, K0⟩ ?_
  have HH : Hid _ := hH
  clear K0 Z0 hW0 M0 hH
  rintro W0 ⟨ZM, MM, hHW, KW0⟩
  -- 1
  have c1 := do_at none [] 0 0 2 5 7 0 0 W0 MM.out (by unfold Str; simp) (by unfold Wd; simp) (by have := MM.out.1; simp at this; omega) [⟨5, 7⟩] false 0 [] rfl rfl rfl rfl
  have q0 := cell_of_blk ZM (i := 0) rfl
  go_wp2_with fail
  refine c1.mono ?_
  clear c1 q0
  rintro o w1 ⟨b1, m1, d1, ka, na, ra, rfl, Q1, K1⟩
  have Z1 := K1.blk ZM (by simp)
  have q0 := cell_of_blk Z1 (i := 0) rfl
  have f0 := free_of_blk Z1 0
  have hl1 := lt_of_blk Z1
  go_upto_region 3 with (fail)
  obtain ⟨A, hA⟩ : ∃ A, A = w1.heap.size := ⟨_, rfl⟩
  rw [← hA]
  have neA : ¬ A = H := by omega
  have yA : ((w1.setCell ⟨H, 0, none⟩ (.slice b1 m1 d1)).alloc (.cells #[.bool false, .bool false, .int .u64 0, .slice ka na ra] 41)).heap[A]? = some (.cells #[.bool false, .bool false, .int .u64 0, .slice ka na ra] 41 (0, 0)) := by have := blk_alloc_new (w1.setCell ⟨H, 0, none⟩ (.slice b1 m1 d1)) (.cells #[.bool false, .bool false, .int .u64 0, .slice ka na ra] 41); rw [nblk_setCell, ← hA] at this; exact this
  have yM : ((w1.setCell ⟨H, 0, none⟩ (.slice b1 m1 d1)).alloc (.cells #[.bool false, .bool false, .int .u64 0, .slice ka na ra] 41)).heap[H]? = some (.cells #[.slice b1 m1 d1] 26 (0, 0)) := box_alloc (blk_set Z1 0 _) _
  have mM : MpV ((w1.setCell ⟨H, 0, none⟩ (.slice b1 m1 d1)).alloc (.cells #[.bool false, .bool false, .int .u64 0, .slice ka na ra] 41)) b1 m1 d1 [⟨5, 7⟩] := (MpV.setMap Q1.out.1 Z1 _).new ((Kept.refl _ _).alloc _)
  have kK : Kept [] w ((w1.setCell ⟨H, 0, none⟩ (.slice b1 m1 d1)).alloc (.cells #[.bool false, .bool false, .int .u64 0, .slice ka na ra] 41)) := ((KW0.trans K1).setCell (p := ⟨H, 0, none⟩) (Or.inr (by have := HH.out; show w.heap.size ≤ H; omega)) _).alloc _
  have na0 : na = 0 := Q1.out.2.1
  subst na0
  refine gen_world (fun W => W.heap[H]? = some (.cells #[.slice b1 m1 d1] 26 (0, 0)) ∧ Hid (MpV W b1 m1 d1 [⟨5, 7⟩]) ∧ W.heap[A]? = some (.cells #[.bool false, .bool false, .int .u64 0, .slice ka 0 ra] 41 (0, 0)) ∧ H < W.heap.size ∧ Kept [] w W) ⟨yM, mM, yA, lt_of_blk yM, kK⟩ ?_
  clear ZM MM hHW KW0 Z1 q0 f0 hl1 K1 Q1 yM mM kK hA yA
  rintro W1 ⟨ZM, MM, yA, hHW, KW1⟩
  -- 2
  have c2 := do_at b1 [⟨5, 7⟩] m1 d1 2 5 8 0 0 W1 MM.out (by unfold Str; simp) (by unfold Wd; simp) (by have := MM.out.1; simp at this; omega) [⟨5, 8⟩] true 7 [] rfl rfl rfl rfl
  have q0 := cell_of_blk ZM (i := 0) rfl
  go_wp2_with fail
  refine c2.mono ?_
  clear c2 q0
  rintro o w2 ⟨b2, m2, d2, kb, nb, rb, rfl, Q2, K2⟩
  have Z2 := K2.blk ZM (by simp)
  have q0 := cell_of_blk Z2 (i := 0) rfl
  have f0 := free_of_blk Z2 0
  have hl2 := lt_of_blk Z2
  go_upto_region 4 with (fail)
  obtain ⟨B, hB⟩ : ∃ B, B = w2.heap.size := ⟨_, rfl⟩
  rw [← hB]
  have neB : ¬ B = H := by omega
  have yB : ((w2.setCell ⟨H, 0, none⟩ (.slice b2 m2 d2)).alloc (.cells #[.bool false, .bool true, .int .u64 7, .slice kb nb rb] 41)).heap[B]? = some (.cells #[.bool false, .bool true, .int .u64 7, .slice kb nb rb] 41 (0, 0)) := by have := blk_alloc_new (w2.setCell ⟨H, 0, none⟩ (.slice b2 m2 d2)) (.cells #[.bool false, .bool true, .int .u64 7, .slice kb nb rb] 41); rw [nblk_setCell, ← hB] at this; exact this
  have yM : ((w2.setCell ⟨H, 0, none⟩ (.slice b2 m2 d2)).alloc (.cells #[.bool false, .bool true, .int .u64 7, .slice kb nb rb] 41)).heap[H]? = some (.cells #[.slice b2 m2 d2] 26 (0, 0)) := box_alloc (blk_set Z2 0 _) _
  have mM : MpV ((w2.setCell ⟨H, 0, none⟩ (.slice b2 m2 d2)).alloc (.cells #[.bool false, .bool true, .int .u64 7, .slice kb nb rb] 41)) b2 m2 d2 [⟨5, 8⟩] := (MpV.setMap Q2.out.1 Z2 _).new ((Kept.refl _ _).alloc _)
  have kK : Kept [] w ((w2.setCell ⟨H, 0, none⟩ (.slice b2 m2 d2)).alloc (.cells #[.bool false, .bool true, .int .u64 7, .slice kb nb rb] 41)) := ((KW1.trans K2).setCell (p := ⟨H, 0, none⟩) (Or.inr (by have := HH.out; show w.heap.size ≤ H; omega)) _).alloc _
  have nb0 : nb = 0 := Q2.out.2.1
  subst nb0
  refine gen_world (fun W => W.heap[H]? = some (.cells #[.slice b2 m2 d2] 26 (0, 0)) ∧ Hid (MpV W b2 m2 d2 [⟨5, 8⟩]) ∧ W.heap[A]? = some (.cells #[.bool false, .bool false, .int .u64 0, .slice ka 0 ra] 41 (0, 0)) ∧ W.heap[B]? = some (.cells #[.bool false, .bool true, .int .u64 7, .slice kb 0 rb] 41 (0, 0)) ∧ H < W.heap.size ∧ Kept [] w W) ⟨yM, mM, box_alloc (blk_far (K2.blk yA (by simp)) neA) _, yB, lt_of_blk yM, kK⟩ ?_
  clear ZM MM hHW KW1 Z2 q0 f0 hl2 K2 Q2 yM mM kK hB yA yB
  rintro W2 ⟨ZM, MM, yA, yB, hHW, KW2⟩
  -- 3
  have c3 := do_at b2 [⟨5, 8⟩] m2 d2 4 3 0 0 0 W2 MM.out (by unfold Str; simp) (by unfold Wd; simp) (by have := MM.out.1; simp at this; omega) [⟨5, 8⟩] true 5 [] rfl rfl rfl rfl
  have q0 := cell_of_blk ZM (i := 0) rfl
  go_wp2_with fail
  refine c3.mono ?_
  clear c3 q0
  rintro o w3 ⟨b3, m3, d3, kc, nc, rc, rfl, Q3, K3⟩
  have Z3 := K3.blk ZM (by simp)
  have q0 := cell_of_blk Z3 (i := 0) rfl
  have f0 := free_of_blk Z3 0
  have hl3 := lt_of_blk Z3
  go_upto_region 5 with (fail)
  obtain ⟨C0, hC0⟩ : ∃ C0, C0 = w3.heap.size := ⟨_, rfl⟩
  obtain ⟨C, hC⟩ : ∃ C, C = w3.heap.size + 1 := ⟨_, rfl⟩
  rw [← hC, ← hC0]
  have neC : ¬ C = H := by omega
  have yC : ((w3.alloc (.cells #[.slice b3 m3 d3] 26)).alloc (.cells #[.bool false, .bool true, .int .u64 5, .slice kc nc rc] 41)).heap[C]? = some (.cells #[.bool false, .bool true, .int .u64 5, .slice kc nc rc] 41 (0, 0)) := by have := blk_alloc_new (w3.alloc (.cells #[.slice b3 m3 d3] 26)) (.cells #[.bool false, .bool true, .int .u64 5, .slice kc nc rc] 41); rw [nblk_alloc, ← hC] at this; exact this
  have yC0 : ((w3.alloc (.cells #[.slice b3 m3 d3] 26)).alloc (.cells #[.bool false, .bool true, .int .u64 5, .slice kc nc rc] 41)).heap[C0]? = some (.cells #[.slice b3 m3 d3] 26 (0, 0)) := by rw [hC0]; exact box_alloc (blk_alloc_new _ _) _
  have yM : ((w3.alloc (.cells #[.slice b3 m3 d3] 26)).alloc (.cells #[.bool false, .bool true, .int .u64 5, .slice kc nc rc] 41)).heap[H]? = some (.cells #[.slice b2 m2 d2] 26 (0, 0)) := box_alloc (box_alloc Z3 _) _
  have kA : Kept [] w3 ((w3.alloc (.cells #[.slice b3 m3 d3] 26)).alloc (.cells #[.bool false, .bool true, .int .u64 5, .slice kc nc rc] 41)) := ((Kept.refl _ _).alloc _).alloc _
  have mM : MpV ((w3.alloc (.cells #[.slice b3 m3 d3] 26)).alloc (.cells #[.bool false, .bool true, .int .u64 5, .slice kc nc rc] 41)) b2 m2 d2 [⟨5, 8⟩] := MpV.new MM.out (K3.trans kA)
  have kK : Kept [] w ((w3.alloc (.cells #[.slice b3 m3 d3] 26)).alloc (.cells #[.bool false, .bool true, .int .u64 5, .slice kc nc rc] 41)) := (KW2.trans K3).trans kA
  refine gen_world (fun W => W.heap[H]? = some (.cells #[.slice b2 m2 d2] 26 (0, 0)) ∧ Hid (MpV W b2 m2 d2 [⟨5, 8⟩]) ∧ W.heap[A]? = some (.cells #[.bool false, .bool false, .int .u64 0, .slice ka 0 ra] 41 (0, 0)) ∧ W.heap[B]? = some (.cells #[.bool false, .bool true, .int .u64 7, .slice kb 0 rb] 41 (0, 0)) ∧ W.heap[C]? = some (.cells #[.bool false, .bool true, .int .u64 5, .slice kc nc rc] 41 (0, 0)) ∧ H < W.heap.size ∧ Kept [] w W) ⟨yM, mM, box_alloc (box_alloc (K3.blk yA (by simp)) _) _, box_alloc (box_alloc (K3.blk yB (by simp)) _) _, yC, lt_of_blk yM, kK⟩ ?_
  clear ZM MM hHW KW2 Z3 q0 f0 hl3 K3 Q3 yM mM kK hC kA hC0 yA yB yC yC0
  rintro W3 ⟨ZM, MM, yA, yB, yC, hHW, KW3⟩
  -- 4
  have c4 := do_at b2 [⟨5, 8⟩] m2 d2 5 5 5 1 0 W3 MM.out (by unfold Str; simp) (by unfold Wd; simp) (by have := MM.out.1; simp at this; omega) [⟨5, 8⟩] false 0 [5] rfl rfl rfl rfl
  have q0 := cell_of_blk ZM (i := 0) rfl
  go_wp2_with fail
  refine c4.mono ?_
  clear c4 q0
  rintro o w4 ⟨b4, m4, d4, kd, nd, rd, rfl, Q4, K4⟩
  have Z4 := K4.blk ZM (by simp)
  have q0 := cell_of_blk Z4 (i := 0) rfl
  have f0 := free_of_blk Z4 0
  have hl4 := lt_of_blk Z4
  go_upto_region 6 with (fail)
  obtain ⟨D0, hD0⟩ : ∃ D0, D0 = w4.heap.size := ⟨_, rfl⟩
  obtain ⟨D, hD⟩ : ∃ D, D = w4.heap.size + 1 := ⟨_, rfl⟩
  rw [← hD, ← hD0]
  have neD : ¬ D = H := by omega
  have yD : ((w4.alloc (.cells #[.slice b4 m4 d4] 26)).alloc (.cells #[.bool false, .bool false, .int .u64 0, .slice kd nd rd] 41)).heap[D]? = some (.cells #[.bool false, .bool false, .int .u64 0, .slice kd nd rd] 41 (0, 0)) := by have := blk_alloc_new (w4.alloc (.cells #[.slice b4 m4 d4] 26)) (.cells #[.bool false, .bool false, .int .u64 0, .slice kd nd rd] 41); rw [nblk_alloc, ← hD] at this; exact this
  have yD0 : ((w4.alloc (.cells #[.slice b4 m4 d4] 26)).alloc (.cells #[.bool false, .bool false, .int .u64 0, .slice kd nd rd] 41)).heap[D0]? = some (.cells #[.slice b4 m4 d4] 26 (0, 0)) := by rw [hD0]; exact box_alloc (blk_alloc_new _ _) _
  have yM : ((w4.alloc (.cells #[.slice b4 m4 d4] 26)).alloc (.cells #[.bool false, .bool false, .int .u64 0, .slice kd nd rd] 41)).heap[H]? = some (.cells #[.slice b2 m2 d2] 26 (0, 0)) := box_alloc (box_alloc Z4 _) _
  have kA : Kept [] w4 ((w4.alloc (.cells #[.slice b4 m4 d4] 26)).alloc (.cells #[.bool false, .bool false, .int .u64 0, .slice kd nd rd] 41)) := ((Kept.refl _ _).alloc _).alloc _
  have mM : MpV ((w4.alloc (.cells #[.slice b4 m4 d4] 26)).alloc (.cells #[.bool false, .bool false, .int .u64 0, .slice kd nd rd] 41)) b2 m2 d2 [⟨5, 8⟩] := MpV.new MM.out (K4.trans kA)
  have kK : Kept [] w ((w4.alloc (.cells #[.slice b4 m4 d4] 26)).alloc (.cells #[.bool false, .bool false, .int .u64 0, .slice kd nd rd] 41)) := (KW3.trans K4).trans kA
  have nd : nd = 1 := Q4.out.2.1
  subst nd
  refine gen_world (fun W => W.heap[H]? = some (.cells #[.slice b2 m2 d2] 26 (0, 0)) ∧ Hid (MpV W b2 m2 d2 [⟨5, 8⟩]) ∧ W.heap[A]? = some (.cells #[.bool false, .bool false, .int .u64 0, .slice ka 0 ra] 41 (0, 0)) ∧ W.heap[B]? = some (.cells #[.bool false, .bool true, .int .u64 7, .slice kb 0 rb] 41 (0, 0)) ∧ W.heap[C]? = some (.cells #[.bool false, .bool true, .int .u64 5, .slice kc nc rc] 41 (0, 0)) ∧ W.heap[D]? = some (.cells #[.bool false, .bool false, .int .u64 0, .slice kd 1 rd] 41 (0, 0)) ∧ Hid (Sl W kd [5]) ∧ H < W.heap.size ∧ Kept [] w W) ⟨yM, mM, box_alloc (box_alloc (K4.blk yA (by simp)) _) _, box_alloc (box_alloc (K4.blk yB (by simp)) _) _, box_alloc (box_alloc (K4.blk yC (by simp)) _) _, yD, (Sl.far Q4.out.2.2 kA), lt_of_blk yM, kK⟩ ?_
  clear ZM MM hHW KW3 Z4 q0 f0 hl4 K4 Q4 yM mM kK hD kA hD0 yA yB yC yD yD0
  rintro W4 ⟨ZM, MM, yA, yB, yC, yD, SD, hHW, KW4⟩
  -- 5
  have c5 := do_at b2 [⟨5, 8⟩] m2 d2 3 5 0 0 0 W4 MM.out (by unfold Str; simp) (by unfold Wd; simp) (by have := MM.out.1; simp at this; omega) [] true 8 [] rfl rfl rfl rfl
  have q0 := cell_of_blk ZM (i := 0) rfl
  go_wp2_with fail
  refine c5.mono ?_
  clear c5 q0
  rintro o w5 ⟨b5, m5, d5, ke, ne, re, rfl, Q5, K5⟩
  have Z5 := K5.blk ZM (by simp)
  have q0 := cell_of_blk Z5 (i := 0) rfl
  have f0 := free_of_blk Z5 0
  have hl5 := lt_of_blk Z5
  go_upto_region 7 with (fail)
  obtain ⟨N0, hN0⟩ : ∃ N0, N0 = w5.heap.size := ⟨_, rfl⟩
  obtain ⟨E, hE⟩ : ∃ E, E = w5.heap.size + 1 := ⟨_, rfl⟩
  rw [← hE, ← hN0]
  have neE : ¬ E = H := by omega
  have yE : ((w5.alloc (.cells #[.slice b5 m5 d5] 26)).alloc (.cells #[.bool false, .bool true, .int .u64 8, .slice ke ne re] 41)).heap[E]? = some (.cells #[.bool false, .bool true, .int .u64 8, .slice ke ne re] 41 (0, 0)) := by have := blk_alloc_new (w5.alloc (.cells #[.slice b5 m5 d5] 26)) (.cells #[.bool false, .bool true, .int .u64 8, .slice ke ne re] 41); rw [nblk_alloc, ← hE] at this; exact this
  have yN0 : ((w5.alloc (.cells #[.slice b5 m5 d5] 26)).alloc (.cells #[.bool false, .bool true, .int .u64 8, .slice ke ne re] 41)).heap[N0]? = some (.cells #[.slice b5 m5 d5] 26 (0, 0)) := by rw [hN0]; exact box_alloc (blk_alloc_new _ _) _
  have yM : ((w5.alloc (.cells #[.slice b5 m5 d5] 26)).alloc (.cells #[.bool false, .bool true, .int .u64 8, .slice ke ne re] 41)).heap[H]? = some (.cells #[.slice b2 m2 d2] 26 (0, 0)) := box_alloc (box_alloc Z5 _) _
  have kA : Kept [] w5 ((w5.alloc (.cells #[.slice b5 m5 d5] 26)).alloc (.cells #[.bool false, .bool true, .int .u64 8, .slice ke ne re] 41)) := ((Kept.refl _ _).alloc _).alloc _
  have mM : MpV ((w5.alloc (.cells #[.slice b5 m5 d5] 26)).alloc (.cells #[.bool false, .bool true, .int .u64 8, .slice ke ne re] 41)) b2 m2 d2 [⟨5, 8⟩] := MpV.new MM.out (K5.trans kA)
  have kK : Kept [] w ((w5.alloc (.cells #[.slice b5 m5 d5] 26)).alloc (.cells #[.bool false, .bool true, .int .u64 8, .slice ke ne re] 41)) := (KW4.trans K5).trans kA
  have hkSD : Hid (Sl ((w5.alloc (.cells #[.slice b5 m5 d5] 26)).alloc (.cells #[.bool false, .bool true, .int .u64 8, .slice ke ne re] 41)) kd [5]) := Sl.far SD.out (K5.trans kA)
  have ne0 : ne = 0 := Q5.out.2.1
  subst ne0
  refine gen_world (fun W => W.heap[H]? = some (.cells #[.slice b2 m2 d2] 26 (0, 0)) ∧ Hid (MpV W b2 m2 d2 [⟨5, 8⟩]) ∧ W.heap[A]? = some (.cells #[.bool false, .bool false, .int .u64 0, .slice ka 0 ra] 41 (0, 0)) ∧ W.heap[B]? = some (.cells #[.bool false, .bool true, .int .u64 7, .slice kb 0 rb] 41 (0, 0)) ∧ W.heap[C]? = some (.cells #[.bool false, .bool true, .int .u64 5, .slice kc nc rc] 41 (0, 0)) ∧ W.heap[D]? = some (.cells #[.bool false, .bool false, .int .u64 0, .slice kd 1 rd] 41 (0, 0)) ∧ W.heap[E]? = some (.cells #[.bool false, .bool true, .int .u64 8, .slice ke 0 re] 41 (0, 0)) ∧ W.heap[N0]? = some (.cells #[.slice b5 m5 d5] 26 (0, 0)) ∧ Hid (Sl W kd [5]) ∧ Hid (MpV W b5 m5 d5 []) ∧ H < W.heap.size ∧ Kept [] w W) ⟨yM, mM, box_alloc (box_alloc (K5.blk yA (by simp)) _) _, box_alloc (box_alloc (K5.blk yB (by simp)) _) _, box_alloc (box_alloc (K5.blk yC (by simp)) _) _, box_alloc (box_alloc (K5.blk yD (by simp)) _) _, yE, yN0, hkSD, (MpV.new Q5.out.1 kA), lt_of_blk yM, kK⟩ ?_
  clear ZM MM hHW KW4 Z5 q0 f0 hl5 K5 Q5 yM mM kK hE kA hN0 yA yB yC yD yE yN0 SD hkSD
  rintro W5 ⟨ZM, MM, yA, yB, yC, yD, yE, yN0, SD, MN, hHW, KW5⟩
  -- 6
  have c6 := do_at b2 [⟨5, 8⟩] m2 d2 1 5 0 0 0 W5 MM.out (by unfold Str; simp) (by unfold Wd; simp) (by have := MM.out.1; simp at this; omega) [⟨5, 8⟩] true 8 [] rfl rfl rfl rfl
  have q0 := cell_of_blk ZM (i := 0) rfl
  go_wp2_with fail
  refine c6.mono ?_
  clear c6 q0
  rintro o w6 ⟨b6, m6, d6, kf, nf, rf, rfl, Q6, K6⟩
  have Z6 := K6.blk ZM (by simp)
  have q0 := cell_of_blk Z6 (i := 0) rfl
  have f0 := free_of_blk Z6 0
  have hl6 := lt_of_blk Z6
  go_upto_region 8 with (fail)
  obtain ⟨F0, hF0⟩ : ∃ F0, F0 = w6.heap.size := ⟨_, rfl⟩
  obtain ⟨F, hF⟩ : ∃ F, F = w6.heap.size + 1 := ⟨_, rfl⟩
  rw [← hF, ← hF0]
  have neF : ¬ F = H := by omega
  have yF : ((w6.alloc (.cells #[.slice b6 m6 d6] 26)).alloc (.cells #[.bool false, .bool true, .int .u64 8, .slice kf nf rf] 41)).heap[F]? = some (.cells #[.bool false, .bool true, .int .u64 8, .slice kf nf rf] 41 (0, 0)) := by have := blk_alloc_new (w6.alloc (.cells #[.slice b6 m6 d6] 26)) (.cells #[.bool false, .bool true, .int .u64 8, .slice kf nf rf] 41); rw [nblk_alloc, ← hF] at this; exact this
  have yF0 : ((w6.alloc (.cells #[.slice b6 m6 d6] 26)).alloc (.cells #[.bool false, .bool true, .int .u64 8, .slice kf nf rf] 41)).heap[F0]? = some (.cells #[.slice b6 m6 d6] 26 (0, 0)) := by rw [hF0]; exact box_alloc (blk_alloc_new _ _) _
  have yM : ((w6.alloc (.cells #[.slice b6 m6 d6] 26)).alloc (.cells #[.bool false, .bool true, .int .u64 8, .slice kf nf rf] 41)).heap[H]? = some (.cells #[.slice b2 m2 d2] 26 (0, 0)) := box_alloc (box_alloc Z6 _) _
  have kA : Kept [] w6 ((w6.alloc (.cells #[.slice b6 m6 d6] 26)).alloc (.cells #[.bool false, .bool true, .int .u64 8, .slice kf nf rf] 41)) := ((Kept.refl _ _).alloc _).alloc _
  have mM : MpV ((w6.alloc (.cells #[.slice b6 m6 d6] 26)).alloc (.cells #[.bool false, .bool true, .int .u64 8, .slice kf nf rf] 41)) b2 m2 d2 [⟨5, 8⟩] := MpV.new MM.out (K6.trans kA)
  have kK : Kept [] w ((w6.alloc (.cells #[.slice b6 m6 d6] 26)).alloc (.cells #[.bool false, .bool true, .int .u64 8, .slice kf nf rf] 41)) := (KW5.trans K6).trans kA
  have hkSD : Hid (Sl ((w6.alloc (.cells #[.slice b6 m6 d6] 26)).alloc (.cells #[.bool false, .bool true, .int .u64 8, .slice kf nf rf] 41)) kd [5]) := Sl.far SD.out (K6.trans kA)
  have hkMN : Hid (MpV ((w6.alloc (.cells #[.slice b6 m6 d6] 26)).alloc (.cells #[.bool false, .bool true, .int .u64 8, .slice kf nf rf] 41)) b5 m5 d5 []) := MpV.new MN.out (K6.trans kA)
  have nf0 : nf = 0 := Q6.out.2.1
  subst nf0
  refine gen_world (fun W => W.heap[H]? = some (.cells #[.slice b2 m2 d2] 26 (0, 0)) ∧ Hid (MpV W b2 m2 d2 [⟨5, 8⟩]) ∧ W.heap[A]? = some (.cells #[.bool false, .bool false, .int .u64 0, .slice ka 0 ra] 41 (0, 0)) ∧ W.heap[B]? = some (.cells #[.bool false, .bool true, .int .u64 7, .slice kb 0 rb] 41 (0, 0)) ∧ W.heap[C]? = some (.cells #[.bool false, .bool true, .int .u64 5, .slice kc nc rc] 41 (0, 0)) ∧ W.heap[D]? = some (.cells #[.bool false, .bool false, .int .u64 0, .slice kd 1 rd] 41 (0, 0)) ∧ W.heap[E]? = some (.cells #[.bool false, .bool true, .int .u64 8, .slice ke 0 re] 41 (0, 0)) ∧ W.heap[N0]? = some (.cells #[.slice b5 m5 d5] 26 (0, 0)) ∧ W.heap[F]? = some (.cells #[.bool false, .bool true, .int .u64 8, .slice kf 0 rf] 41 (0, 0)) ∧ Hid (Sl W kd [5]) ∧ Hid (MpV W b5 m5 d5 []) ∧ H < W.heap.size ∧ Kept [] w W) ⟨yM, mM, box_alloc (box_alloc (K6.blk yA (by simp)) _) _, box_alloc (box_alloc (K6.blk yB (by simp)) _) _, box_alloc (box_alloc (K6.blk yC (by simp)) _) _, box_alloc (box_alloc (K6.blk yD (by simp)) _) _, box_alloc (box_alloc (K6.blk yE (by simp)) _) _, box_alloc (box_alloc (K6.blk yN0 (by simp)) _) _, yF, hkSD, hkMN, lt_of_blk yM, kK⟩ ?_
  clear ZM MM hHW KW5 Z6 q0 f0 hl6 K6 Q6 yM mM kK hF kA hF0 yA yB yC yD yE yF yN0 yF0 SD hkSD MN hkMN
  rintro W6 ⟨ZM, MM, yA, yB, yC, yD, yE, yN0, yF, SD, MN, hHW, KW6⟩
  have hm2 : m2 = 1 := MM.out.1
  subst hm2
  have hm5 : m5 = 0 := MN.out.1
  subst hm5
  have cp := pairs_any b2 [⟨5, 8⟩] 1 d2 W6 MM.out (by omega)
  have q0 := cell_of_blk ZM (i := 0) rfl
  go_wp2_with fail
  refine cp.mono ?_
  clear cp q0
  rintro o w7 ⟨pb, pc, rfl, MP, K7⟩
  obtain ⟨gp, op, rfl, -, p0, p1⟩ := SlP.row MP.2.1 (k := 0) (by simp)
  simp at p0 p1
  obtain ⟨gd, od, rfl, -, kd0⟩ := (Sl.far SD.out K7).cell (i := 0) (by simp)
  simp at kd0
  have HS : Hid (∀ W', Kept [] w7 W' → W'.cell? ⟨A, 0, none⟩ = some (.bool false) ∧ W'.cell? ⟨A, 1, none⟩ = some (.bool false) ∧ W'.cell? ⟨A, 2, none⟩ = some (.int .u64 0) ∧ W'.cell? ⟨A, 3, none⟩ = some (.slice ka 0 ra) ∧ W'.cell? ⟨B, 0, none⟩ = some (.bool false) ∧ W'.cell? ⟨B, 1, none⟩ = some (.bool true) ∧ W'.cell? ⟨B, 2, none⟩ = some (.int .u64 7) ∧ W'.cell? ⟨B, 3, none⟩ = some (.slice kb 0 rb) ∧ W'.cell? ⟨C, 1, none⟩ = some (.bool true) ∧ W'.cell? ⟨C, 2, none⟩ = some (.int .u64 5) ∧ W'.cell? ⟨D, 3, none⟩ = some (.slice (some ⟨gd, od, none⟩) 1 rd) ∧ W'.cell? ⟨E, 0, none⟩ = some (.bool false) ∧ W'.cell? ⟨E, 1, none⟩ = some (.bool true) ∧ W'.cell? ⟨E, 2, none⟩ = some (.int .u64 8) ∧ W'.cell? ⟨E, 3, none⟩ = some (.slice ke 0 re) ∧ W'.cell? ⟨F, 0, none⟩ = some (.bool false) ∧ W'.cell? ⟨F, 1, none⟩ = some (.bool true) ∧ W'.cell? ⟨F, 2, none⟩ = some (.int .u64 8) ∧ W'.cell? ⟨F, 3, none⟩ = some (.slice kf 0 rf) ∧ W'.cell? ⟨N0, 0, none⟩ = some (.slice b5 0 d5) ∧ W'.cell? ⟨gp, op, none⟩ = some (.int .u64 5) ∧ W'.cell? ⟨gp, op + 1, none⟩ = some (.int .u64 8) ∧ W'.cell? ⟨gd, od, none⟩ = some (.int .u64 5)) := fun W' k => by
    have T := K7.trans k
    have zA := T.blk yA (by simp)
    have zB := T.blk yB (by simp)
    have zC := T.blk yC (by simp)
    have zD := T.blk yD (by simp)
    have zE := T.blk yE (by simp)
    have zF := T.blk yF (by simp)
    have zN := T.blk yN0 (by simp)
    exact ⟨cell_of_blk zA (i := 0) rfl, cell_of_blk zA (i := 1) rfl, cell_of_blk zA (i := 2) rfl, cell_of_blk zA (i := 3) rfl, cell_of_blk zB (i := 0) rfl, cell_of_blk zB (i := 1) rfl, cell_of_blk zB (i := 2) rfl, cell_of_blk zB (i := 3) rfl, cell_of_blk zC (i := 1) rfl, cell_of_blk zC (i := 2) rfl, cell_of_blk zD (i := 3) rfl, cell_of_blk zE (i := 0) rfl, cell_of_blk zE (i := 1) rfl, cell_of_blk zE (i := 2) rfl, cell_of_blk zE (i := 3) rfl, cell_of_blk zF (i := 0) rfl, cell_of_blk zF (i := 1) rfl, cell_of_blk zF (i := 2) rfl, cell_of_blk zF (i := 3) rfl, cell_of_blk zN (i := 0) rfl, same_at k p0, same_at k p1, same_at k kd0⟩
  have HP : Hid (∀ W', Kept [] w7 W' → Calls Try.prog 14 #[.agg #[.slice b5 0 d5]] W' fun o w' => ∃ bo cb, o = .returned (.slice bo 0 cb) ∧ Kept [] w7 w') := fun W' k =>
    (pairs_any b5 [] 0 d5 W' (MpV.new MN.out (K7.trans k)) (by omega)).mono fun _ _ hh => by obtain ⟨a, b, h1, _, h3⟩ := hh; exact ⟨a, b, h1, k.trans h3⟩
  have HE : Hid (∀ W', Kept [] w7 W' → Calls Try.prog 20 #[.agg #[.bool false, .bool true, .int .u64 8, .slice kf 0 rf], .agg #[.bool false, .bool true, .int .u64 8, .slice ke 0 re]] W' fun o w' => o = .returned (.bool true) ∧ Kept [] w7 w') := fun W' k =>
    (ssame_any false true false true 8 8 kf ke [] [] 0 0 rf re W' rfl rfl (fun h => absurd h (by simp)) (fun h => absurd h (by simp)) (by omega)).mono fun _ _ hh => ⟨hh.1, k.trans hh.2⟩
  have HN : Hid (∀ W', Kept [] w7 W' → Calls Try.prog 20 #[.agg #[.bool false, .bool false, .int .u64 0, .slice ka 0 ra], .agg #[.bool false, .bool true, .int .u64 7, .slice kb 0 rb]] W' fun o w' => o = .returned (.bool false) ∧ Kept [] w7 w') := fun W' k =>
    (ssame_any false false false true 0 7 ka kb [] [] 0 0 ra rb W' rfl rfl (fun h => absurd h (by simp)) (fun h => absurd h (by simp)) (by omega)).mono fun _ _ hh => ⟨hh.1, k.trans hh.2⟩
  have heq := eq_spair 5 8 5 8
  rw [show ((5 : Int) == 5 && (8 : Int) == 8) = true from rfl] at heq
  have KF : Hid _ := KW6.trans K7
  obtain ⟨u0, u1, u2, u3, u4, u5, u6, u7, u8, u9, u10, u11, u12, u13, u14, u15, u16, u17, u18, u19, u20, u21, u22⟩ := HS.out w7 (Kept.refl _ _)
  clear ZM MM hHW KW6 yA yB yC yD yE yF yN0 SD MN MP K7 p0 p1 kd0
  go_wp2_with fail
  refine (HP.out w7 (Kept.refl _ _)).mono ?_
  clear u0 u1 u2 u3 u4 u5 u6 u7 u8 u9 u10 u11 u12 u13 u14 u15 u16 u17 u18 u19 u20 u21 u22
  rintro o w8 ⟨bo, cb, rfl, K8⟩
  obtain ⟨u0, u1, u2, u3, u4, u5, u6, u7, u8, u9, u10, u11, u12, u13, u14, u15, u16, u17, u18, u19, u20, u21, u22⟩ := HS.out w8 K8
  go_wp2_with fail
  refine (HE.out w8 K8).mono ?_
  clear u0 u1 u2 u3 u4 u5 u6 u7 u8 u9 u10 u11 u12 u13 u14 u15 u16 u17 u18 u19 u20 u21 u22
  rintro o w9 ⟨rfl, K9⟩
  obtain ⟨u0, u1, u2, u3, u4, u5, u6, u7, u8, u9, u10, u11, u12, u13, u14, u15, u16, u17, u18, u19, u20, u21, u22⟩ := HS.out w9 K9
  go_wp2_with fail
  refine (HN.out w9 K9).mono ?_
  clear u0 u1 u2 u3 u4 u5 u6 u7 u8 u9 u10 u11 u12 u13 u14 u15 u16 u17 u18 u19 u20 u21 u22
  rintro o w10 ⟨rfl, K10⟩
  go_wp2
  go_ret
  exact ⟨rfl, KF.out.trans K10⟩
end Go.Proofs.Ytapbkonfjieadaa.Q
