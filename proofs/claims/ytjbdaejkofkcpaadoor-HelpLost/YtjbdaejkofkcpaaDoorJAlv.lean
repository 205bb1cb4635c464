/-
  A node of two levels, deleted on both, and again.
-/
import Derived.Test.YtjbdaejkofkcpaaDoorJHelp
import Derived.Test.YtjbdaejkofkcpaaDoorFLayW
import Derived.Test.YtjbdaejkofkcpaaDoorMNew
namespace Go.Proofs.YtjbdaejkofkcpaaDoor
open Go.RowKit (Grown Hid Below intOf)
open Go.Deep
namespace K
set_option maxRecDepth 100000
def c12 : Cfg := ⟨1, 1, 1, 2, 1, 1, 9⟩
def n12 : List Nn := [⟨1, 0, 2, 0, true⟩]
theorem right12 : RightN c12 n12 := by
  refine ⟨by decide +kernel, by decide, fun i hi => ?_, fun i hi => ?_⟩
  · have hi' : i < 1 := hi
    rcases (by omega : i = 0) with e; subst e; exact ⟨by decide, by decide, by decide, by decide, by decide, by decide⟩
  · have hi' : i + 1 < 1 := hi
    omega
theorem wf12 : ∀ x ∈ n12, x.wf := by
  intro x hx
  simp [n12] at hx
  subst hx; exact ⟨by decide, by decide⟩
def s12 : Hm := ⟨9223372036854775809, 0, 0, 0⟩
def x12 (n : Nat) : Hm × List Int := hx c12 n (s12, layV c12 n12)
def y12 (n : Nat) : Hm × List Int := hx c12 n (s12, (x12 5).2)
theorem x12_end : ((x12 0).1.ph = 0 ∧ (x12 1).1.ph = 1 ∧ (x12 2).1.ph = 2 ∧ (x12 3).1.ph = 1 ∧ (x12 4).1.ph = 2 ∧ (x12 5).1.ph = 3) ∧ ((y12 0).1.ph = 0 ∧ (y12 1).1.ph = 1 ∧ (y12 2).1.ph = 1 ∧ (y12 3).1.ph = 3) ∧ mkB (fd c12 (y12 3).2 1 6) = true ∧ mkB (fd c12 (y12 3).2 1 7) = true := by decide +kernel
theorem x12_n {n : Nat} (h : (x12 n).1.ph = 3 ∨ n = 20) (hk : n ≤ 20) (hn : ∀ j, j < n → ¬ (x12 j).1.ph = 3) : n = 5 := by
  obtain ⟨⟨h0, h1, h2, h3, h4, h5⟩, _⟩ := x12_end
  have : ¬ 5 < n := fun z => hn 5 z h5
  rcases (by omega : n = 0 ∨ n = 1 ∨ n = 2 ∨ n = 3 ∨ n = 4 ∨ n = 5) with e | e | e | e | e | e <;> subst e <;> omega
theorem y12_n {n : Nat} (h : (y12 n).1.ph = 3 ∨ n = 20) (hk : n ≤ 20) (hn : ∀ j, j < n → ¬ (y12 j).1.ph = 3) : n = 3 := by
  obtain ⟨_, ⟨h0, h1, h2, h3⟩, _⟩ := x12_end
  have : ¬ 3 < n := fun z => hn 3 z h3
  rcases (by omega : n = 0 ∨ n = 1 ∨ n = 2 ∨ n = 3) with e | e | e | e <;> subst e <;> omega
theorem blk_alloc_drew (w : World) (o : Obj) : (w.alloc o).drew.heap[w.heap.size]? = some o := blk_alloc_new w o
theorem slOf12 {w : World} {b : Nat} (h : w.heap[b]? = some (.cells #[.int .u64 1, .int .u64 0, .int .i64 2, .int .i64 0, .bool true] 72 (0, 0))) : SlOf 5 nnL w (some ⟨b, 0, none⟩) n12 := by
  intro _
  refine ⟨b, 0, rfl, lt_of_blk h, fun k hk j v hv => ?_⟩
  have hk' : k < 1 := hk
  rcases (by omega : k = 0) with e; subst e
  rcases j with _ | _ | _ | _ | _ | j
  all_goals first | (refine cell_of_blk h ?_; exact hv) | simp [n12, nnL] at hv
set_option maxHeartbeats 4000000 in
theorem alive_any (w : World) (hT : Tab w) : Calls Tryd.prog 11 #[] w fun e w' => e = .returned (.bool true) ∧ Kept [] w w' := by
  have HT := hidOf hT
  clear hT
  obtain ⟨q, hq⟩ : ∃ q, q = w.heap.size := ⟨_, rfl⟩
  have BX : Hid (RW 23 (w.alloc (.cells #[.int .i64 1, .int .i64 1, .int .i64 1, .int .i64 2, .int .i64 1, .int .i64 1, .int .i64 9] 23)) q #[.int .i64 1, .int .i64 1, .int .i64 1, .int .i64 2, .int .i64 1, .int .i64 1, .int .i64 9] ∧ Kept [] w (w.alloc (.cells #[.int .i64 1, .int .i64 1, .int .i64 1, .int .i64 2, .int .i64 1, .int .i64 1, .int .i64 9] 23))) := by rw [hq]; exact ⟨RW.new _ _ _, (Kept.refl [] w).alloc _⟩
  go_enter Tryd.func11, Tryd.ntmps11
  go_upto_region 2 with (fail)
  rw [← hq]
  refine gen_world (fun W => RW 23 W q #[.int .i64 1, .int .i64 1, .int .i64 1, .int .i64 2, .int .i64 1, .int .i64 1, .int .i64 9] ∧ Kept [] w W) BX.out ?_
  clear BX hq
  rintro W ⟨CB0, K0⟩
  have HX := hidOf (And.intro CB0 K0)
  clear CB0 K0
  have SX : Hid (∀ W' : World, Kept [] W W' → W'.cell? ⟨q, 0, none⟩ = some (.int .i64 1) ∧ W'.cell? ⟨q, 1, none⟩ = some (.int .i64 1) ∧ W'.cell? ⟨q, 2, none⟩ = some (.int .i64 1) ∧ W'.cell? ⟨q, 3, none⟩ = some (.int .i64 2) ∧ W'.cell? ⟨q, 4, none⟩ = some (.int .i64 1) ∧ W'.cell? ⟨q, 5, none⟩ = some (.int .i64 1) ∧ W'.cell? ⟨q, 6, none⟩ = some (.int .i64 9)) := hidOf (by
    intro W' kk
    have y := HX.out.1.kept kk (by simp)
    exact ⟨cell_of_blk y (i := 0) rfl, cell_of_blk y (i := 1) rfl, cell_of_blk y (i := 2) rfl, cell_of_blk y (i := 3) rfl, cell_of_blk y (i := 4) rfl, cell_of_blk y (i := 5) rfl, cell_of_blk y (i := 6) rfl⟩)
  have LY : Hid (∀ (W' : World) (b : Nat), Kept [] W W' → W'.heap[b]? = some (.cells #[.int .u64 1, .int .u64 0, .int .i64 2, .int .i64 0, .bool true] 72 (0, 0)) → Calls Tryd.prog 27 #[.agg #[.int .i64 1, .int .i64 1, .int .i64 1, .int .i64 2, .int .i64 1, .int .i64 1, .int .i64 9], .slice (some ⟨b, 0, none⟩) 1 1] W' fun e w' => ∃ g c', e = .returned (.slice (some ⟨g, 0, none⟩) (lnN c12) c') ∧ RowR w' g (layV c12 n12) c' ∧ Kept [] W w') := hidOf (fun W' b kk z => (lay_any c12 n12 (some ⟨b, 0, none⟩) 1 1 W' right12 wf12 (slOf12 z) rfl).mono fun _ _ hh => by obtain ⟨g, c', e, _, R, K⟩ := hh; exact ⟨g, c', e, R, kk.trans K⟩)
  have OF : Hid (∀ (W' : World) (g c' : Nat), Kept [] W W' → RowR W' g (layV c12 n12) c' → Calls Tryd.prog 26 #[.agg #[.int .i64 1, .int .i64 1, .int .i64 1, .int .i64 2, .int .i64 1, .int .i64 1, .int .i64 9], .slice (some ⟨g, 0, none⟩) (lnN c12) c'] W' fun e w' => ∃ m p r, e = .returned (.tuple #[.pointer (some ⟨m, 0, none⟩), .int .i64 0]) ∧ (W.heap.size ≤ m ∧ W.heap.size ≤ p ∧ W.heap.size ≤ r) ∧ Mm w' m p r c12 (layV c12 n12) 0 Acc.zero ∧ Kept [] W w') := hidOf (fun W' g c' kk R => (mof_yes c12 (some ⟨g, 0, none⟩) (layV c12 n12) (lnN c12) c' W' (by decide +kernel) (by rw [lnN_eq]) (by unfold layV; rw [lyAll_len]) R.sl).mono fun _ _ hh => by obtain ⟨m, p, r, e, ⟨h1, h2, h3⟩, M, K⟩ := hh; have := kk.size; exact ⟨m, p, r, e, ⟨by omega, by omega, by omega⟩, M, kk.trans K⟩)
  obtain ⟨LN, hLN⟩ : ∃ LN, LN = lnN c12 := ⟨_, rfl⟩
  rw [← hLN] at LY OF
  obtain ⟨LV, hLV⟩ : ∃ LV, LV = layV c12 n12 := ⟨_, rfl⟩
  rw [← hLV] at LY OF
  have HLV := hidOf hLV
  clear hLN hLV
  go_region_held3 (fun W' => W'.cell? ⟨q, 0, none⟩ = some (.int .i64 1) ∧ W'.cell? ⟨q, 1, none⟩ = some (.int .i64 1) ∧ W'.cell? ⟨q, 2, none⟩ = some (.int .i64 1) ∧ W'.cell? ⟨q, 3, none⟩ = some (.int .i64 2) ∧ W'.cell? ⟨q, 4, none⟩ = some (.int .i64 1) ∧ W'.cell? ⟨q, 5, none⟩ = some (.int .i64 1) ∧ W'.cell? ⟨q, 6, none⟩ = some (.int .i64 9))
    (exact SX.out _ (by first | assumption | exact (Kept.refl _ _).drew | exact ((Kept.refl _ _).alloc _).drew | exact Kept.refl _ _))
    (first
      | (go_at_call 27; with_reducible refine (LY.out _ _ (by exact ((Kept.refl _ _).alloc _).drew) (blk_alloc_drew _ _)).mono ?_; rintro e w5 ⟨g, c', rfl, R5, K5⟩)
      | (go_at_call 26; with_reducible refine (OF.out _ _ _ (by assumption) (by assumption)).mono ?_; rintro e w6 ⟨m, p, r, rfl, hpr, M6, K6⟩))
  have HY := hidOf (And.intro hpr (And.intro M6 K6))
  clear R5 K5 hpr M6 K6 SX LY OF
  have OF1 := hidOf (fun (Y : World) => rof1_any 1 0 Y (by omega) (by omega))
  rw [show packV 1 0 false = 9223372036854775809 by decide] at OF1
  go_wp2_with fail
  refine (OF1.out _).mono ?_
  rintro e w7 ⟨rfl, K7⟩
  have J7 : Jm W w7 m p r c12 LV 0 Acc.zero := by
    obtain ⟨⟨h0, h1, h2⟩, M, K⟩ := HY.out
    exact ⟨M.new K7, K.trans K7, HT.out.kept HX.out.2, h0, h1, h2, by exact riB_true.1 (by decide +kernel), by rw [HLV.out]; exact wds_all right12 wf12 1 (Nat.le_refl _), Int.le_refl _⟩
  have HJ7 := hidOf J7
  clear J7 K7 OF1 HY
  go_wp2_with fail
  refine (hnew_any _ _).mono ?_
  rintro e w8 ⟨b1, rfl, hb1, B8, K8⟩
  have HJ8 := hidOf (And.intro (HJ7.out.new K8) (And.intro B8 (show W.heap.size ≤ b1 by have := HJ7.out.kp.size; omega)))
  clear hb1 B8 K8 HJ7
  go_wp2_with fail
  refine (hnew_any _ _).mono ?_
  rintro e w9 ⟨b2, rfl, hb2, B9, K9⟩
  have HJ9 := hidOf (And.intro (HJ8.out.1.new K9) (And.intro (HJ8.out.2.1.kept K9 (by simp)) (And.intro HJ8.out.2.2 (And.intro B9 (show W.heap.size ≤ b2 ∧ b1 < b2 by have := HJ8.out.1.kp.size; have := HJ8.out.2.1.lt; omega)))))
  clear hb2 B9 K9 HJ8
  go_wp2_with fail
  refine HJ9.out.1.bank.mono ?_
  rintro e w10 ⟨rfl, rfl⟩
  have W0 : isW 9223372036854775809 := by unfold isW; omega
  have EA := hidOf (ends_any W _ b1 m p r c12 s12 LV 0 Acc.zero 20 HJ9.out.1 HJ9.out.2.1 HJ9.out.2.2.1 (HI.start W0) (by omega) (by omega))
  go_wp2_with fail
  refine EA.out.mono ?_
  rintro e w11 ⟨n1, rfl, e1, e2, Z⟩
  have en := x12_n (n := n1) (by unfold x12; rw [← HLV.out]; exact e1) e2 (by unfold x12; rw [← HLV.out]; exact Z.no)
  subst en
  have HK : Hid (∃ a, Jm W w11 m p r c12 (x12 5).2 5 a ∧ HB w11 b2 s12) := hidOf (by
    obtain ⟨a, j⟩ := Z.jm
    have nm := HBk.nm HJ9.out.2.2.2.1 HJ9.out.1.mm
    refine ⟨a, ?_, HJ9.out.2.2.2.1.kept Z.kp (by have := HJ9.out.2.2.2.2.2; simp; omega)⟩
    unfold x12; rw [← HLV.out]; simpa using j)
  have HG := hidOf HJ9.out.2.2.2.2.1
  clear Z e1 e2 EA HJ9
  obtain ⟨a1, hk1⟩ := HK.out
  have HK1 := hidOf hk1
  clear hk1 HK
  have EA := hidOf (ends_any W _ b2 m p r c12 s12 (x12 5).2 5 a1 20 HK1.out.1 HK1.out.2 HG.out (HI.start W0) (by omega) (by omega))
  go_wp2_with fail
  refine EA.out.mono ?_
  rintro e w12 ⟨n2, rfl, e1, e2, Z⟩
  have en := y12_n (n := n2) e1 e2 Z.no
  subst en
  have HK2 : Hid (∃ a, Jm W w12 m p r c12 (y12 3).2 8 a) := hidOf (by
    obtain ⟨a, j⟩ := Z.jm
    exact ⟨a, by show Jm W w12 m p r c12 (hx c12 3 (s12, (x12 5).2)).2 8 a; simpa using j⟩)
  clear Z e1 e2 EA HK1
  obtain ⟨a2, hk2⟩ := HK2.out
  have HJ := hidOf hk2
  clear hk2 HK2
  have HTW := hidOf HJ.out.tab
  have mk1 := x12_end.2.2.1
  have mk2 := x12_end.2.2.2
  have wd1 := fd_word (c := c12) HJ.out.wd 1 6
  have wd2 := fd_word (c := c12) HJ.out.wd 1 7
  have LD1 := hidOf (HJ.out.load 9223372036854775809 6 W0 (by omega))
  rw [show ixV 9223372036854775809 = 1 by decide] at LD1
  obtain ⟨V1, hV1⟩ : ∃ V, V = fd c12 (y12 3).2 1 6 := ⟨_, rfl⟩
  rw [← hV1] at LD1 mk1 wd1
  clear hV1
  obtain ⟨V2, hV2⟩ : ∃ V, V = fd c12 (y12 3).2 1 7 := ⟨_, rfl⟩
  have HV2 := hidOf hV2
  rw [← hV2] at mk2 wd2
  clear hV2
  have HM := hidOf (And.intro mk1 (And.intro mk2 (And.intro wd1 wd2)))
  clear mk1 mk2 wd1 wd2 W0
  go_wp2_with fail
  refine LD1.out.mono ?_
  rintro e w13 ⟨a3, rfl, J3, -⟩
  have HJ3 := hidOf J3
  clear J3 LD1 HJ
  have MK1 := hidOf (marked_any V1 w13 HJ3.out.tab HM.out.2.2.1.1 HM.out.2.2.1.2)
  rw [HM.out.1] at MK1
  go_wp2_with fail
  refine MK1.out.mono ?_
  rintro e w14 ⟨rfl, K14⟩
  have HJ4 := hidOf (HJ3.out.new K14)
  clear K14 MK1 HJ3
  have LD2 := hidOf (HJ4.out.load 9223372036854775809 7 (by unfold isW; omega) (by omega))
  rw [show ixV 9223372036854775809 = 1 by decide, ← HV2.out] at LD2
  go_wp2_with fail
  refine LD2.out.mono ?_
  rintro e w15 ⟨a4, rfl, J5, -⟩
  have MK2 := hidOf (marked_any V2 w15 J5.tab HM.out.2.2.2.1 HM.out.2.2.2.2)
  rw [HM.out.2.1] at MK2
  have HJ5 := hidOf J5
  clear J5 LD2 HJ4
  go_wp2_with fail
  refine MK2.out.mono ?_
  rintro e w16 ⟨rfl, K16⟩
  have KF := hidOf ((HX.out.2.trans HJ5.out.kp).trans K16)
  clear K16 HJ5 MK2
  go_wp2
  go_ret
  exact ⟨rfl, KF.out⟩
end K
end Go.Proofs.YtjbdaejkofkcpaaDoor
