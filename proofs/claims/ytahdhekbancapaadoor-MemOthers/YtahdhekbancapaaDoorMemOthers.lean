/-
  For every configuration, all words and a call of a field: it changes no other cell, and is one access; the law MemOthers answers true, and the arguments read as they did.
  Conditions: the package variable of handle that the code reads starts as the program's text lays it (the card ties it to that text).
-/
import Derived.Test.YtahdhekbancapaaDoorMSame
import Derived.Test.YtahdhekbancapaaDoorMAlive
import Derived.Test.YtahdhekbancapaaDoorMDoes
import Derived.Test.YtahdhekbancapaaDoorHLaid
import Derived.Test.YtahdhekbancapaaDoorPArgs
import Derived.ProofKit
import Derived.SizedLaws
import Derived.Carry
namespace Go.Proofs.YtahdhekbancapaaDoor
open Go.ChangeShapes Go.WideShapes Go.ChangeAt Go.RowKit
open Go.Deep
set_option maxRecDepth 100000

set_option maxRecDepth 100000 in
set_option maxHeartbeats 4000000 in
theorem lof_no (c : Cfg) (ao : Option Addr) (n cap : Nat) (w : World) (h : ¬ (riB c = true ∧ (n : Int) = lnV c ∧ n ≤ 400)) :
    Calls Tryd.prog 18 #[.agg #[.int .i64 c.t, .int .i64 c.s, .int .i64 c.c, .int .i64 c.h, .int .i64 c.k, .int .i64 c.e, .int .i64 c.l], .slice ao n cap] w fun e w' => e = .returned (.tuple #[.pointer none, .agg #[.int .i64 0, .int .i64 0, .int .i64 0, .int .i64 0, .int .i64 0, .int .i64 0, .int .i64 0, .slice none 0 0, .int .i64 0, .int .i64 0, .int .i64 0, .int .u64 0, .int .u64 0, .int .u64 0, .bool false], .bool false]) ∧ Kept [] w w' := by
  cases hr : riB c
  · exact lof_wrong c ao n cap w hr
  · by_cases hl : (n : Int) = lnV c
    · exact lof_big c ao n cap w hr hl (by have : ¬ n ≤ 400 := fun q => h ⟨hr, hl, q⟩; omega)
    · exact lof_len c ao n cap w hr (lnV c) rfl (by simpa using hl)
theorem clV_other (cs : List Int) (k X old v : Int) (j : Nat) (h : ¬ (j : Int) = X) : (clV cs k X old v).getD j 0 = cs.getD j 0 := by
  unfold clV; split
  · rename_i hc
    have : ¬ X.toNat = j := by have := hc.1; omega
    simp [List.getD, this]
  · rfl
theorem clV_length (cs : List Int) (k X old v : Int) : (clV cs k X old v).length = cs.length := by
  unfold clV; split <;> simp
theorem others_key (c : Cfg) (o : OpM) (xs : List Int) (h0 : 0 ≤ o.k) (h3 : o.k ≤ 3) :
    (∀ j : Nat, ¬ (dsC xs (trO c o)).getD j 0 = xs.getD j 0 → (j : Int) = clV' c (ixV o.h) o.x) ∧ (dsC xs (trO c o)).length = xs.length ∧ dsN 0 (trO c o) = 1 := by
  obtain ⟨k, x, y, h, old, v⟩ := o
  simp only at h0 h3
  have hk : k = 0 ∨ k = 1 ∨ k = 2 ∨ k = 3 := by omega
  rcases hk with rfl | rfl | rfl | rfl
  · exact ⟨fun j hj => Decidable.byContradiction fun e => hj (clV_other xs 1 (clV' c (ixV h) x) 0 0 j e), clV_length _ _ _ _ _, rfl⟩
  · exact ⟨fun j hj => Decidable.byContradiction fun e => hj (clV_other xs 2 (clV' c (ixV h) x) 0 v j e), clV_length _ _ _ _ _, rfl⟩
  · exact ⟨fun j hj => Decidable.byContradiction fun e => hj (clV_other xs 3 (clV' c (ixV h) x) old v j e), clV_length _ _ _ _ _, rfl⟩
  · exact ⟨fun j hj => Decidable.byContradiction fun e => hj (clV_other xs 4 (clV' c (ixV h) x) 0 v j e), clV_length _ _ _ _ _, rfl⟩
theorem cell_is' {c : Cfg} {a b v : Int} (h : clV' c a b = v) (w : World) : Calls Tryd.prog 21 #[.agg #[.int .i64 c.t, .int .i64 c.s, .int .i64 c.c, .int .i64 c.h, .int .i64 c.k, .int .i64 c.e, .int .i64 c.l], .int .i64 a, .int .i64 b] w fun e w' => e = .returned (.int .i64 v) ∧ Kept [] w w' := cell_is h w
set_option maxRecDepth 100000 in
set_option maxHeartbeats 4000000 in
theorem memOthers_walk (w : World) (c : Cfg) (_g : c.wf) (ao : Option Addr) (xs : List Int) (cap : Nat) (hs : Sl w ao xs) (_hg : ∀ x ∈ xs, isWord x) (hc : ao = none → cap = 0) (o : OpM) (hw : o.wf) (hT : Tab w) :
    Calls Tryd.prog 6 #[c.val, .slice ao xs.length cap, o.val] w fun e w' => e = .returned (.bool true) ∧ Kept [] w w' := by
  simp only [Cfg.val, OpM.val]
  have Z : CB ((w.alloc (.cells #[.int .i64 c.t, .int .i64 c.s, .int .i64 c.c, .int .i64 c.h, .int .i64 c.k, .int .i64 c.e, .int .i64 c.l] 23)).alloc (.cells #[.int .i64 o.k, .int .i64 o.x, .int .i64 o.y, .int .u64 o.h, .int .u64 o.old, .int .u64 o.v] 54)) w.heap.size c := (CB.new w c).kept ((Kept.refl [] _).alloc _) (by simp)
  have Y := blk2 w (.cells #[.int .i64 c.t, .int .i64 c.s, .int .i64 c.c, .int .i64 c.h, .int .i64 c.k, .int .i64 c.e, .int .i64 c.l] 23) (.cells #[.int .i64 o.k, .int .i64 o.x, .int .i64 o.y, .int .u64 o.h, .int .u64 o.old, .int .u64 o.v] 54)
  have T : Kept [] w ((w.alloc (.cells #[.int .i64 c.t, .int .i64 c.s, .int .i64 c.c, .int .i64 c.h, .int .i64 c.k, .int .i64 c.e, .int .i64 c.l] 23)).alloc (.cells #[.int .i64 o.k, .int .i64 o.x, .int .i64 o.y, .int .u64 o.h, .int .u64 o.old, .int .u64 o.v] 54)) := kept2 w _ _
  have HT : Hid (Tab ((w.alloc (.cells #[.int .i64 c.t, .int .i64 c.s, .int .i64 c.c, .int .i64 c.h, .int .i64 c.k, .int .i64 c.e, .int .i64 c.l] 23)).alloc (.cells #[.int .i64 o.k, .int .i64 o.x, .int .i64 o.y, .int .u64 o.h, .int .u64 o.old, .int .u64 o.v] 54))) := hT.kept T
  obtain ⟨b, hb⟩ : ∃ b, b = w.heap.size := ⟨_, rfl⟩
  have HT0 : Hid (∀ W' : World, Kept [] w W' → Tab W') := fun _ k => hT.kept k
  clear hT
  obtain ⟨n, hn⟩ : ∃ n, n = xs.length := ⟨_, rfl⟩
  rw [← hn]
  have HN : Hid _ := hn
  have HA : Hid _ := And.intro hs hc
  clear hn hs hc
  by_cases hG : ¬ (riB c = true ∧ (n : Int) = lnV c ∧ n ≤ 400)
  · have HG : Hid _ := hG
    clear hG
    go_enter Tryd.func6, Tryd.ntmps6
    go_wp2_with fail
    rw [← hb] at Z Y ⊢
    clear hb
    generalize ((w.alloc (.cells #[.int .i64 c.t, .int .i64 c.s, .int .i64 c.c, .int .i64 c.h, .int .i64 c.k, .int .i64 c.e, .int .i64 c.l] 23)).alloc (.cells #[.int .i64 o.k, .int .i64 o.x, .int .i64 o.y, .int .u64 o.h, .int .u64 o.old, .int .u64 o.v] 54)) = W at Z Y T HT ⊢
    refine (lof_no c ao n cap _ HG.out).mono ?_
    rintro e W1 ⟨rfl, K1⟩
    replace Z := Z.kept K1 (by simp)
    replace T := T.trans K1
    replace HT : Hid _ := Tab.kept HT.out K1
    go_wp2_with fail
    refine (alive_any _ (by exact Tab.kept HT.out ((Kept.refl _ _).alloc _))).mono ?_
    rintro e WA ⟨rfl, KA⟩
    go_wp2
    go_ret
    exact ⟨rfl, (T.alloc _).trans KA⟩
  replace hG := Decidable.not_not.1 hG
  have hb4 : n ≤ 400 := hG.2.2
  have HG : Hid _ := hG
  clear hG
  have HW : Hid _ := hw
  clear hw
  by_cases hk0 : o.k < 0
  · have d1 : decide (o.k < 0) = true := by simpa using hk0
    go_enter Tryd.func6, Tryd.ntmps6
    go_wp2_with fail
    rw [← hb] at Z Y ⊢
    clear hb
    generalize ((w.alloc (.cells #[.int .i64 c.t, .int .i64 c.s, .int .i64 c.c, .int .i64 c.h, .int .i64 c.k, .int .i64 c.e, .int .i64 c.l] 23)).alloc (.cells #[.int .i64 o.k, .int .i64 o.x, .int .i64 o.y, .int .u64 o.h, .int .u64 o.old, .int .u64 o.v] 54)) = W at Z Y T HT ⊢
    refine (lof_yes c ao xs n cap _ HG.out.1 HG.out.2.1 HG.out.2.2 HN.out (HA.out.1.new T) HA.out.2).mono ?_
    rintro e W1 ⟨m, p, r, g, c', rfl, hsz, M, R, K1⟩
    replace Z := Z.kept K1 (by simp)
    replace T := T.trans K1
    replace HT : Hid _ := Tab.kept HT.out K1
    replace Y := K1.blk Y (by simp)
    simp only [rmV]
    have hbd := lt_of_blk Y
    have hbd' : b + 1 < W1.heap.size + 1 := by omega
    have o0 := cell_of_blk Y (i := 0) rfl
    have o1 := cell_of_blk Y (i := 1) rfl
    have o2 := cell_of_blk Y (i := 2) rfl
    have o3 := cell_of_blk Y (i := 3) rfl
    have o4 := cell_of_blk Y (i := 4) rfl
    have o5 := cell_of_blk Y (i := 5) rfl
    clear M R Y
    go_wp2_with fail
    refine (alive_any _ (by exact Tab.kept HT.out ((Kept.refl _ _).alloc _))).mono ?_
    rintro e WA ⟨rfl, KA⟩
    go_wp2
    go_ret
    exact ⟨rfl, (T.alloc _).trans KA⟩
  by_cases hk3 : 3 < o.k
  · have d1 : decide (o.k < 0) = false := by simpa using hk0
    have d2 : decide (3 < o.k) = true := by simpa using hk3
    go_enter Tryd.func6, Tryd.ntmps6
    go_wp2_with fail
    rw [← hb] at Z Y ⊢
    clear hb
    generalize ((w.alloc (.cells #[.int .i64 c.t, .int .i64 c.s, .int .i64 c.c, .int .i64 c.h, .int .i64 c.k, .int .i64 c.e, .int .i64 c.l] 23)).alloc (.cells #[.int .i64 o.k, .int .i64 o.x, .int .i64 o.y, .int .u64 o.h, .int .u64 o.old, .int .u64 o.v] 54)) = W at Z Y T HT ⊢
    refine (lof_yes c ao xs n cap _ HG.out.1 HG.out.2.1 HG.out.2.2 HN.out (HA.out.1.new T) HA.out.2).mono ?_
    rintro e W1 ⟨m, p, r, g, c', rfl, hsz, M, R, K1⟩
    replace Z := Z.kept K1 (by simp)
    replace T := T.trans K1
    replace HT : Hid _ := Tab.kept HT.out K1
    replace Y := K1.blk Y (by simp)
    simp only [rmV]
    have hbd := lt_of_blk Y
    have hbd' : b + 1 < W1.heap.size + 1 := by omega
    have o0 := cell_of_blk Y (i := 0) rfl
    have o1 := cell_of_blk Y (i := 1) rfl
    have o2 := cell_of_blk Y (i := 2) rfl
    have o3 := cell_of_blk Y (i := 3) rfl
    have o4 := cell_of_blk Y (i := 4) rfl
    have o5 := cell_of_blk Y (i := 5) rfl
    clear M R Y
    go_wp2_with fail
    refine (alive_any _ (by exact Tab.kept HT.out ((Kept.refl _ _).alloc _))).mono ?_
    rintro e WA ⟨rfl, KA⟩
    go_wp2
    go_ret
    exact ⟨rfl, (T.alloc _).trans KA⟩
  have d1 : decide (o.k < 0) = false := by simpa using hk0
  have d2 : decide (3 < o.k) = false := by simpa using hk3
  obtain ⟨HO, HL, HC⟩ := others_key c o xs (by omega) (by omega)
  have HO : Hid _ := HO
  have HL : Hid _ := HL
  have HC : Hid _ := HC
  go_enter Tryd.func6, Tryd.ntmps6
  go_wp2_with fail
  rw [← hb] at Z Y ⊢
  clear hb
  generalize ((w.alloc (.cells #[.int .i64 c.t, .int .i64 c.s, .int .i64 c.c, .int .i64 c.h, .int .i64 c.k, .int .i64 c.e, .int .i64 c.l] 23)).alloc (.cells #[.int .i64 o.k, .int .i64 o.x, .int .i64 o.y, .int .u64 o.h, .int .u64 o.old, .int .u64 o.v] 54)) = W at Z Y T HT ⊢
  have hbW : b + 1 < W.heap.size := lt_of_blk Y
  have hTW := T.size
  refine (lof_yes c ao xs n cap _ HG.out.1 HG.out.2.1 HG.out.2.2 HN.out (HA.out.1.new T) HA.out.2).mono ?_
  rintro e W1 ⟨m, p, r, g, c', rfl, hsz, M, R, K1⟩
  replace Z := Z.kept K1 (by simp)
  replace T := T.trans K1
  replace HT : Hid _ := Tab.kept HT.out K1
  replace Y := K1.blk Y (by simp)
  simp only [rmV]
  have hbd := lt_of_blk Y
  have hbd' : b + 1 < W1.heap.size + 1 := by omega
  have o0 := cell_of_blk Y (i := 0) rfl
  have o1 := cell_of_blk Y (i := 1) rfl
  have o2 := cell_of_blk Y (i := 2) rfl
  have o3 := cell_of_blk Y (i := 3) rfl
  have o4 := cell_of_blk Y (i := 4) rfl
  have o5 := cell_of_blk Y (i := 5) rfl
  have hpr : w.heap.size ≤ p ∧ w.heap.size ≤ r ∧ ¬ b = p ∧ ¬ b = r ∧ ¬ b + 1 = p ∧ ¬ b + 1 = r := by omega
  go_upto_region 4 with (fail)
  refine gen_world (fun V => V.heap[b + 1]? = some (.cells #[.int .i64 o.k, .int .i64 o.x, .int .i64 o.y, .int .u64 o.h, .int .u64 o.old, .int .u64 o.v] 54 (0, 0)) ∧ CB V b c ∧ Mm V m p r c xs 0 Acc.zero ∧ Kept [] w V) ?_ ?_
  · exact ⟨Kept.blk ((Kept.refl [] _).alloc _) Y (by simp), Z.kept ((Kept.refl [] _).alloc _) (by simp), M.new ((Kept.refl [] _).alloc _), T.alloc _⟩
  clear Y M R T Z HT K1 hsz hbd hbd' o0 o1 o2 o3 o4 o5 d1 d2 hk0 hk3
  rintro V ⟨Y, Z, M, T⟩
  have o0 := cell_of_blk Y (i := 0) rfl
  have o1 := cell_of_blk Y (i := 1) rfl
  have o2 := cell_of_blk Y (i := 2) rfl
  have o3 := cell_of_blk Y (i := 3) rfl
  have o4 := cell_of_blk Y (i := 4) rfl
  have o5 := cell_of_blk Y (i := 5) rfl
  go_wp2_with fail
  refine (mdoes_any m p r c xs 0 Acc.zero o _ M (HT0.out _ T) HW.out (by omega) (by omega)).mono ?_
  rintro e w1 ⟨rfl, M1, K1⟩
  rw [HC.out] at M1
  have Y1 := K1.blk Y (by simp; omega)
  have Z1 := Z.kept K1 (by simp; omega)
  have T1 := T.own K1 hpr.1 hpr.2.1
  generalize dsA xs Acc.zero (trO c o) = A at M1
  generalize dsC xs (trO c o) = ys at M1 HO HL
  generalize dsU xs (trO c o) = U
  generalize dsB xs (trO c o) = VB
  clear o0 o1 o2 o3 o4 o5 K1 Y Z M T
  obtain ⟨I, hI⟩ : ∃ I, ixV o.h = I := ⟨_, rfl⟩
  obtain ⟨X, hX⟩ : ∃ X, clV' c I o.x = X := ⟨_, rfl⟩
  rw [hI, hX] at HO
  have HI : Hid (∀ W' : World, Calls Tryd.prog 22 #[.int .u64 o.h] W' fun e w' => e = .returned (.int .i64 I) ∧ Kept [] W' w') := fun W' => rindex_is hI W' HW.out.1 HW.out.2
  have HX : Hid _ := hX
  clear hI hX
  go_wp2_with fail
  have q0 : ∀ u : KW w1, u.val.cell? ⟨b, 0, none⟩ = some (.int .i64 c.t) := KW.cell (cell_of_blk Z1 (i := 0) rfl)
  have q1 : ∀ u : KW w1, u.val.cell? ⟨b, 1, none⟩ = some (.int .i64 c.s) := KW.cell (cell_of_blk Z1 (i := 1) rfl)
  have q2 : ∀ u : KW w1, u.val.cell? ⟨b, 2, none⟩ = some (.int .i64 c.c) := KW.cell (cell_of_blk Z1 (i := 2) rfl)
  have q3 : ∀ u : KW w1, u.val.cell? ⟨b, 3, none⟩ = some (.int .i64 c.h) := KW.cell (cell_of_blk Z1 (i := 3) rfl)
  have q4 : ∀ u : KW w1, u.val.cell? ⟨b, 4, none⟩ = some (.int .i64 c.k) := KW.cell (cell_of_blk Z1 (i := 4) rfl)
  have q5 : ∀ u : KW w1, u.val.cell? ⟨b, 5, none⟩ = some (.int .i64 c.e) := KW.cell (cell_of_blk Z1 (i := 5) rfl)
  have q6 : ∀ u : KW w1, u.val.cell? ⟨b, 6, none⟩ = some (.int .i64 c.l) := KW.cell (cell_of_blk Z1 (i := 6) rfl)
  have o1 : ∀ u : KW w1, u.val.cell? ⟨b + 1, 1, none⟩ = some (.int .i64 o.x) := KW.cell (cell_of_blk Y1 (i := 1) rfl)
  have o3 : ∀ u : KW w1, u.val.cell? ⟨b + 1, 3, none⟩ = some (.int .u64 o.h) := KW.cell (cell_of_blk Y1 (i := 3) rfl)
  refine wp_region_kept (by kernel_rfl) (by kernel_rfl) ?_
  repeat (first | go_big_quiet_step ((first | (go_at_call 22; exact Calls.kw_of (HI.out _)) | (go_at_call 21; exact Calls.kw_of (cell_is HX.out _)))) | quiet_step ((first | (go_at_call 22; exact Calls.kw_of (HI.out _)) | (go_at_call 21; exact Calls.kw_of (cell_is HX.out _)))))
  refine wpQuiet_nil ?_
  intro _ hw'
  obtain ⟨pq, hw''⟩ := hw'
  subst hw''
  have K2 := pq.kept
  generalize pq.val = w2 at K2 ⊢
  have M2 := M1.new K2
  have T2 := T1.trans K2
  clear q0 q1 q2 q3 q4 q5 q6 o1 o3 pq Y1 Z1 M1 T1 K2
  go_wp2_with fail
  refine (bank_any m p r c _ _ _ _ M2).mono ?_
  rintro e w3 ⟨rfl, rfl⟩
  go_wp2_with fail
  refine (cells_any p r _ _ _ _ M2.bk).mono ?_
  rintro e w4 ⟨rfl, Q4, K4⟩
  have M4 := M2.new K4
  have T4 := T2.trans K4
  rw [HL.out, ← HN.out]
  generalize w3.heap.size = q at Q4 ⊢
  clear M2 T2 K4
  go_wp2
  go_loopw [47] (fun i wr => ∃ k : Nat, k ≤ n ∧ i = .int .i64 k ∧ Kept [] w4 wr) (fun i _ => n - (intOf i).toNat)
  case atStart => exact ⟨0, Nat.zero_le _, rfl, Kept.refl _ _⟩
  case round =>
    obtain ⟨k, hk, rfl, KK⟩ := hrel
    have T5 := T4.trans KK
    by_cases hlt : k < n
    · obtain ⟨b1, o1, rfl, _, c1⟩ := (HA.out.1.new T5).cell (i := k) (by have := HN.out; omega)
      have c2 := (Q4.kept KK (by simp)).cell (i := k) (by have := HN.out; have := HL.out; omega)
      have key := HO.out k
      rw [show ys[k]'(by have := HN.out; have := HL.out; omega) = ys.getD k 0 from by simp [show k < ys.length from by have := HN.out; have := HL.out; omega]] at c2
      generalize ys.getD k 0 = yv at c2 key
      generalize xs.getD k 0 = xv at c1 key
      clear M4
      by_cases hxy : yv = xv
      · subst hxy
        clear key
        go_wp2
        go_roundw
        case rel => exact ⟨k + 1, by omega, by go_num, KK⟩
        case measure => simp [intOf]; omega
      · have k1 := key hxy
        clear key
        subst k1
        go_wp2
        go_roundw
        case rel => exact ⟨k + 1, by omega, by go_num, KK⟩
        case measure => simp [intOf]; omega
    · have M5 := M4.new KK
      clear Q4 M4
      go_wp2_with fail
      refine (alive_any _ (HT0.out _ T5)).mono ?_
      rintro e w6 ⟨rfl, K6⟩
      go_wp2_with fail
      refine (bank_any m p r c _ _ _ _ (M5.new K6)).mono ?_
      rintro e w7 ⟨rfl, rfl⟩
      go_wp2_with fail
      refine (count_any p r _ _ _ _ (M5.new K6).bk).mono ?_
      rintro e w8 ⟨rfl, rfl⟩
      go_wp2
      go_ret
      exact ⟨rfl, T5.trans K6⟩

set_option maxRecDepth 100000 in
theorem memOthers_lifted (os : Os) (started : os.Started) (H : Type) (enc : TypeId × Value → H) :
    ReturnsInHanded {} Tryd.checked os 6 .any (fun w args => (Rows.memOthersSpec.pre enc Tryd.prog Tryd.f6 [] false w args ∧ laidMetH Tryd.prog laid1 w) ∧ sizedMet enc Tryd.prog Tryd.f6 (OpenSpec.ofChange Rows.memOthersSpec) false w args)
      (Rows.memOthersSpec.post enc Tryd.prog Tryd.f6 false true false false) := by
  refine returnsInHanded_of_change_and (C := Tryd.checked) (X := fun w _ => laidMetH Tryd.prog laid1 w) (fun _ _ _ hh h => h.of_heap hh) own started (by kernel_rfl) Tryd.func6
    (ChangeSpec.witness_shaped (enc := enc) (C := Tryd.checked) (os := os) (X := fun w _ => laidMetH Tryd.prog laid1 w) false (World.doorLaid Tryd.prog 400 os) #[.agg #[.int .i64 0, .int .i64 0, .int .i64 0, .int .i64 0, .int .i64 0, .int .i64 0, .int .i64 0], .slice none 0 0, .agg #[.int .i64 0, .int .i64 0, .int .i64 0, .int .u64 0, .int .u64 0, .int .u64 0]] 8 rfl (World.shaped_of_RefB (by kernel_rfl) (by kernel_rfl)) (by kernel_rfl) (by kernel_rfl) (by kernel_rfl) (door_met os _)) ?_
  intro W base args ds gs before hval0 hW _ _ hL _
  have hval : ∀ (j : Nat) t v, Tryd.f6.params[j]? = some t → args[j]? = some v → Value.okWide Tryd.prog W .any base t v := hval0
  have hW' := hW
  obtain ⟨p, q, hA0, hV, rfl, _, _⟩ := hW
  have hA : DataW.TrodAll enc Tryd.prog W 0 (fun _ => true) true Tryd.f6.params.toList args.toList ds p := hA0
  rw [Tryd.params6] at hA hval
  clear hA0 hval0
  obtain ⟨v0, vs0, d0, ds0, p0, q0, hargs, rfl, rfl, h0, r0⟩ := trodAll_cons hA
  obtain ⟨v1, vs1, d1, ds1, p1, q1, rfl, rfl, rfl, h1, r1⟩ := trodAll_cons r0
  obtain ⟨v2, vs2, d2, ds2, p2, q2, rfl, rfl, rfl, h2, r2⟩ := trodAll_cons r1
  obtain ⟨rfl, rfl, rfl⟩ := trodAll_nil r2
  obtain rfl : args = #[v0, v1, v2] := by cases args; simp_all
  obtain ⟨rfl, rfl⟩ := trodVars_none hV
  have k0 := h0
  have k1 := h1
  have k2 := h2
  simp only [List.append_nil] at hW'
  have hlt0 : ∀ x ∈ p0, x.block < W.heap.size := fun x hx => hW'.lt x (by simp [hx])
  have hlt1 : ∀ x ∈ p1, x.block < W.heap.size := fun x hx => hW'.lt x (by simp [hx])
  have hlt2 : ∀ x ∈ p2, x.block < W.heap.size := fun x hx => hW'.lt x (by simp [hx])
  obtain ⟨c0, rfl, g0⟩ := open_cfg (hval 0 23 v0 rfl rfl) h0
  obtain ⟨ao1, cap1, xs1, rfl, s1, g1, z1, n1⟩ := open_words (hval 1 37 v1 rfl rfl) h1
  obtain ⟨o2, rfl, w2⟩ := open_opm (hval 2 54 v2 rfl rfl) h2
  refine (memOthers_walk W c0 g0 ao1 xs1 cap1 s1 g1 n1 o2 w2 (tab_of_laid hL)).mono fun e W' ⟨he, hg⟩ => ?_
  subst he
  have hb := hg.below (by simp)
  exact ⟨_, rfl, _, _, _, [], _, [], hW', (trodAll_cons_mk (shut_bool Tryd.underlying4 _) trodAll_mk0), (trodAll_cons_mk (Below.trod laidOut (by kernel_rfl) (of_decide_eq_true (by kernel_rfl)) k0 hb hlt0) (trodAll_cons_mk (Below.trod laidOut (by kernel_rfl) (of_decide_eq_true (by kernel_rfl)) k1 hb hlt1) (trodAll_cons_mk (Below.trod laidOut (by kernel_rfl) (of_decide_eq_true (by kernel_rfl)) k2 hb hlt2) trodAll_mk0))), rfl, hb.frame _, fun h => by cases h⟩

theorem memOthers_over : Rows.MemOthersSaid :=
  OpenClaim.holds_of_wide 6 Tryd.f6 rfl rfl rfl rfl rfl rfl rfl ⟨rfl, rfl, rfl, rfl, rfl⟩ rfl rfl rfl rfl rfl (by kernel_rfl) Tryd.func6 (by kernel_rfl)
    (of_decide_eq_true (by kernel_rfl)) (by unfold Func.isWrapper; first | (rw [if_pos (by decide +kernel)]; kernel_rfl) | (rw [if_neg (by decide +kernel)]; exact ⟨rfl, rfl⟩))
    (fun os started H enc _ => memOthers_lifted os started H enc)

theorem memOthers_holds : Rows.MemOthersCardSaid :=
  Claim7.holds_tied_plain_at .later [] [.data] true (true, "8fbe9499f1103e4c4dda2993993749ae3f6b66e8777a4b39f9f429556d4835eb") false
    memOthers_over (fun _ h => by cases h) (by kernel_rfl) (fun _ h => by cases h) memOthers_row_tie rfl ⟨rfl, rfl⟩ (by kernel_rfl) rfl
    (fun f fn hf hfn => by
      obtain rfl : f = 6 := Option.some.inj ((show Tryd.prog.funcNamed "stepstone/stepstonelaw05.MemOthers" = some 6 by kernel_rfl).symm.trans hf) |>.symm
      obtain rfl : fn = Tryd.f6 := (Option.some.inj (Tryd.func6.symm.trans hfn)).symm
      exact ⟨by kernel_rfl, fun j t ht => by
          rw [Tryd.params6] at ht
          rcases j with _ | j
          · have : t = 23 := by simpa using ht.symm
            subst this; exact (show Tryd.prog.wantsStandIn 23 = false by kernel_rfl)
          rcases j with _ | j
          · have : t = 37 := by simpa using ht.symm
            subst this; exact (show Tryd.prog.wantsStandIn 37 = false by kernel_rfl)
          rcases j with _ | j
          · have : t = 54 := by simpa using ht.symm
            subst this; exact (show Tryd.prog.wantsStandIn 54 = false by kernel_rfl)
          simp at ht⟩)
    (by kernel_rfl)
#print axioms memOthers_holds
end Go.Proofs.YtahdhekbancapaaDoor
