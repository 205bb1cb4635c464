/-
  For every configuration, all words, and two handles of one index: their fields are the same, and the access says on whose behalf, without a mark; the law MemMarks answers true, and the arguments read as they did.
  Conditions: the package variable of handle that the code reads starts as the program's text lays it (the card ties it to that text).
-/
import Derived.Test.YtahdhekbancapaaDoorMSame
import Derived.Test.YtahdhekbancapaaDoorMAlive
import Derived.Test.YtahdhekbancapaaDoorHLaid
import Derived.Test.YtahdhekbancapaaDoorPArgs
import Derived.ProofKit
import Derived.SizedLaws
import Derived.Carry
namespace Go.Proofs.YtahdhekbancapaaDoor
open Go.ChangeShapes Go.WideShapes Go.ChangeAt Go.RowKit
open Go.Deep
set_option maxRecDepth 100000

set_option maxRecDepth 100000 in
set_option maxHeartbeats 4000000 in
theorem lof_no (c : Cfg) (ao : Option Addr) (n cap : Nat) (w : World) (h : ¬ (riB c = true ∧ (n : Int) = lnV c ∧ n ≤ 400)) :
    Calls Tryd.prog 18 #[.agg #[.int .i64 c.t, .int .i64 c.s, .int .i64 c.c, .int .i64 c.h, .int .i64 c.k, .int .i64 c.e, .int .i64 c.l], .slice ao n cap] w fun e w' => e = .returned (.tuple #[.pointer none, .agg #[.int .i64 0, .int .i64 0, .int .i64 0, .int .i64 0, .int .i64 0, .int .i64 0, .int .i64 0, .slice none 0 0, .int .i64 0, .int .i64 0, .int .i64 0, .int .u64 0, .int .u64 0, .int .u64 0, .bool false], .bool false]) ∧ Kept [] w w' := by
  cases hr : riB c
  · exact lof_wrong c ao n cap w hr
  · by_cases hl : (n : Int) = lnV c
    · exact lof_big c ao n cap w hr hl (by have : ¬ n ≤ 400 := fun q => h ⟨hr, hl, q⟩; omega)
    · exact lof_len c ao n cap w hr (lnV c) rfl (by simpa using hl)
theorem flat_arr3 : flat Tryd.prog 3 66 = some [.int .u64, .int .u64, .int .u64] := by kernel_rfl
theorem open_arr3 {H : Type} {enc : TypeId × Value → H} {w : World} {r : Reach} {b0 : Nat} {v : Value} {d : DataW H} {p : List MemPlace} (hv : Value.okWide Tryd.prog w r b0 66 v) (h : DataW.Trod enc Tryd.prog w 0 (fun _ => true) true 66 v d p) :
    ∃ x y z : Int, v = .agg #[.int .u64 x, .int .u64 y, .int .u64 z] ∧ (0 ≤ x ∧ x ≤ 18446744073709551615) ∧ (0 ≤ y ∧ y ≤ 18446744073709551615) ∧ (0 ≤ z ∧ z ≤ 18446744073709551615) := by
  obtain ⟨cs, rfl, hF⟩ := flat_agg (Or.inr ⟨_, _, Tryd.underlying66⟩) flat_arr3 hv h
  obtain ⟨x, _, e1, w1, h1⟩ := F2_int hF
  obtain ⟨y, _, rfl, w2, h2⟩ := F2_int h1
  obtain ⟨z, _, rfl, w3, h3⟩ := F2_int h2
  obtain rfl := F2_nil h3
  exact ⟨x, y, z, by cases cs; simp only at e1; subst e1; rfl, bounds_u64 w1, bounds_u64 w2, bounds_u64 w3⟩
theorem clV_load (cs : List Int) (X : Int) : clV cs 1 X 0 0 = cs := by
  unfold clV; split
  · rename_i h
    have hx : X.toNat < cs.length := by have := h.2; have := h.1; omega
    exact set_same cs X.toNat hx _ rfl
  · rfl
theorem acV_o (cs : List Int) (X V V' : Int) : (acV cs 1 X V 0 0).o = (acV cs 1 X V' 0 0).o := by unfold acV; split <;> rfl
theorem acV_v (cs : List Int) (X V : Int) : (acV cs 1 X V 0 0).v = V := by unfold acV; split <;> rfl
theorem fld2 (a : Acc) (w : World) : (Instr.field 68 a.val 2).run Tryd.prog w = .ok (.int .u64 a.v) w := by kernel_rfl
set_option maxRecDepth 100000 in
set_option maxHeartbeats 4000000 in
theorem memMarks_walk (w : World) (c : Cfg) (_g : c.wf) (ao : Option Addr) (xs : List Int) (cap : Nat) (hs : Sl w ao xs) (_hg : ∀ x ∈ xs, isWord x) (hc : ao = none → cap = 0) (x y z : Int) (hz : (0 ≤ x ∧ x ≤ 18446744073709551615) ∧ (0 ≤ y ∧ y ≤ 18446744073709551615) ∧ (0 ≤ z ∧ z ≤ 18446744073709551615)) (hT : Tab w) :
    Calls Tryd.prog 7 #[c.val, .slice ao xs.length cap, .agg #[.int .u64 x, .int .u64 y, .int .u64 z]] w fun e w' => e = .returned (.bool true) ∧ Kept [] w w' := by
  simp only [Cfg.val]
  have Z : CB ((w.alloc (.cells #[.int .i64 c.t, .int .i64 c.s, .int .i64 c.c, .int .i64 c.h, .int .i64 c.k, .int .i64 c.e, .int .i64 c.l] 23)).alloc (.cells #[.int .u64 x, .int .u64 y, .int .u64 z] 66)) w.heap.size c := (CB.new w c).kept ((Kept.refl [] _).alloc _) (by simp)
  have Y := blk2 w (.cells #[.int .i64 c.t, .int .i64 c.s, .int .i64 c.c, .int .i64 c.h, .int .i64 c.k, .int .i64 c.e, .int .i64 c.l] 23) (.cells #[.int .u64 x, .int .u64 y, .int .u64 z] 66)
  have T : Kept [] w ((w.alloc (.cells #[.int .i64 c.t, .int .i64 c.s, .int .i64 c.c, .int .i64 c.h, .int .i64 c.k, .int .i64 c.e, .int .i64 c.l] 23)).alloc (.cells #[.int .u64 x, .int .u64 y, .int .u64 z] 66)) := kept2 w _ _
  have HT : Hid (Tab ((w.alloc (.cells #[.int .i64 c.t, .int .i64 c.s, .int .i64 c.c, .int .i64 c.h, .int .i64 c.k, .int .i64 c.e, .int .i64 c.l] 23)).alloc (.cells #[.int .u64 x, .int .u64 y, .int .u64 z] 66))) := hT.kept T
  obtain ⟨b, hb⟩ : ∃ b, b = w.heap.size := ⟨_, rfl⟩
  have HT0 : Hid (∀ W' : World, Kept [] w W' → Tab W') := fun _ k => hT.kept k
  clear hT
  obtain ⟨n, hn⟩ : ∃ n, n = xs.length := ⟨_, rfl⟩
  rw [← hn]
  have HN : Hid _ := hn
  have HA : Hid _ := And.intro hs hc
  clear hn hs hc
  by_cases hG : ¬ (riB c = true ∧ (n : Int) = lnV c ∧ n ≤ 400)
  · have HG : Hid _ := hG
    clear hG
    go_enter Tryd.func7, Tryd.ntmps7
    go_wp2_with fail
    rw [← hb] at Z Y ⊢
    clear hb
    generalize ((w.alloc (.cells #[.int .i64 c.t, .int .i64 c.s, .int .i64 c.c, .int .i64 c.h, .int .i64 c.k, .int .i64 c.e, .int .i64 c.l] 23)).alloc (.cells #[.int .u64 x, .int .u64 y, .int .u64 z] 66)) = W at Z Y T HT ⊢
    refine (lof_no c ao n cap _ HG.out).mono ?_
    rintro e W1 ⟨rfl, K1⟩
    replace Z := Z.kept K1 (by simp)
    replace T := T.trans K1
    replace HT : Hid _ := Tab.kept HT.out K1
    go_wp2_with fail
    refine (alive_any _ (by exact Tab.kept HT.out ((Kept.refl _ _).alloc _))).mono ?_
    rintro e WA ⟨rfl, KA⟩
    go_wp2
    go_ret
    exact ⟨rfl, (T.alloc _).trans KA⟩
  replace hG := Decidable.not_not.1 hG
  have HG : Hid _ := hG
  clear hG
  obtain ⟨⟨x0, x1⟩, ⟨y0, y1⟩, z0, z1⟩ := hz
  go_enter Tryd.func7, Tryd.ntmps7
  go_wp2_with fail
  rw [← hb] at Z Y ⊢
  clear hb
  generalize ((w.alloc (.cells #[.int .i64 c.t, .int .i64 c.s, .int .i64 c.c, .int .i64 c.h, .int .i64 c.k, .int .i64 c.e, .int .i64 c.l] 23)).alloc (.cells #[.int .u64 x, .int .u64 y, .int .u64 z] 66)) = W at Z Y T HT ⊢
  refine (lof_yes c ao xs n cap _ HG.out.1 HG.out.2.1 HG.out.2.2 HN.out (HA.out.1.new T) HA.out.2).mono ?_
  rintro e W1 ⟨m, p, r, g, c', rfl, hsz, M, R, K1⟩
  have hpr : w.heap.size ≤ p ∧ w.heap.size ≤ r := by have := T.size; omega
  replace Z := Z.kept K1 (by simp)
  replace T := T.trans K1
  replace HT : Hid _ := Tab.kept HT.out K1
  replace Y := K1.blk Y (by simp)
  simp only [rmV]
  have hbd := lt_of_blk Y
  have hbd' : b + 1 < W1.heap.size + 1 := by omega
  go_upto_region 4 with (fail)
  refine gen_world (fun V => V.heap[b + 1]? = some (.cells #[.int .u64 x, .int .u64 y, .int .u64 z] 66 (0, 0)) ∧ Mm V m p r c xs 0 Acc.zero ∧ Kept [] w V) ?_ ?_
  · exact ⟨Kept.blk ((Kept.refl [] _).alloc _) Y (by simp), M.new ((Kept.refl [] _).alloc _), T.alloc _⟩
  clear Y M R T Z HT K1 hsz hbd hbd'
  rintro V ⟨Y, M, T⟩
  have q0 := cell_of_blk Y (i := 0) rfl
  have q1 := cell_of_blk Y (i := 1) rfl
  have q2 := cell_of_blk Y (i := 2) rfl
  go_region
  all_goals
    have g0 : 0 ≤ x % 4294967296 + y / 4294967296 * 4294967296 ∧ x % 4294967296 + y / 4294967296 * 4294967296 < 18446744073709551616 ∧ ixV (x % 4294967296 + y / 4294967296 * 4294967296) = ixV x := by unfold ixV; omega
    generalize x % 4294967296 + y / 4294967296 * 4294967296 = G at g0 ⊢
    obtain ⟨F, hF⟩ : ∃ F, z % 16 = F := ⟨_, rfl⟩
    have HF : Hid (z % 16 = F) := hF
    obtain ⟨E, hE⟩ : ∃ E, ∀ V, (acV xs 1 (clV' c (ixV x) F) V 0 0).o = E := ⟨_, fun V => acV_o xs _ V 0⟩
    have L1 : Hid (∀ W' : World, Kept [] V W' → Calls Tryd.prog 26 #[.pointer (some ⟨m, 0, none⟩), .int .u64 x, .int .i64 F] W' fun e w' => e = .returned (.int .u64 E) ∧ Mm w' m p r c xs 1 (acV xs 1 (clV' c (ixV x) F) (plainV x) 0 0) ∧ Kept [p, r] W' w') := fun W' k => by
      have q := mload_any m p r c xs 0 Acc.zero x F W' (M.new k) (HT0.out _ (T.trans k)) x0 (by omega) (by omega) (by omega)
      rw [clV_load, hE] at q
      exact q
    have L2 : Hid (∀ (W' : World) (a : Acc), Mm W' m p r c xs 1 a → Tab W' → Calls Tryd.prog 26 #[.pointer (some ⟨m, 0, none⟩), .int .u64 G, .int .i64 F] W' fun e w' => e = .returned (.int .u64 E) ∧ Mm w' m p r c xs 2 (acV xs 1 (clV' c (ixV x) F) (plainV G) 0 0) ∧ Kept [p, r] W' w') := fun W' a k t => by
      have q := mload_any m p r c xs 1 a G F W' k t g0.1 g0.2.1 (by omega) (by omega)
      rw [clV_load, g0.2.2, hE] at q
      exact q
    have v1 := acV_v xs (clV' c (ixV x) F) (plainV x)
    have v2 := acV_v xs (clV' c (ixV x) F) (plainV G)
    generalize acV xs 1 (clV' c (ixV x) F) (plainV x) 0 0 = A1 at *
    generalize acV xs 1 (clV' c (ixV x) F) (plainV G) 0 0 = A2 at *
    have hfd := fld2
    have P1 : Hid (∀ W' : World, Calls Tryd.prog 28 #[.int .u64 x] W' fun e w' => e = .returned (.int .u64 A1.v) ∧ Kept [] W' w') := fun W' => rplain_is v1.symm W' x0 (by omega)
    have P2 : Hid (∀ W' : World, Calls Tryd.prog 28 #[.int .u64 G] W' fun e w' => e = .returned (.int .u64 A2.v) ∧ Kept [] W' w') := fun W' => rplain_is v2.symm W' g0.1 g0.2.1
    have HK : Hid (Kept [] w V) := T
    have fz : z.tmod 16 = F := by rw [← hF]; exact Int.tmod_eq_emod_of_nonneg z0
    clear hE v1 v2 g0 Y q0 q1 M T
    go_wp2_with fail
    refine (L1.out _ (Kept.refl [] V).drew).mono ?_
    rintro e w1 ⟨rfl, M1, K1⟩
    have T1 := HK.out.drew.own K1 hpr.1 hpr.2
    clear K1
    go_wp2_with fail
    refine (bank_any m p r c _ _ _ _ M1).mono ?_
    rintro e w2 ⟨rfl, rfl⟩
    go_wp2_with fail
    refine (last_any p r _ _ _ _ M1.bk).mono ?_
    rintro e w3 ⟨rfl, K3⟩
    have M3 := M1.new K3
    have T3 := T1.trans K3
    clear M1 T1 K3
    go_wp2_with fail
    refine (L2.out _ _ M3 (HT0.out _ T3)).mono ?_
    rintro e w4 ⟨rfl, M4, K4⟩
    have T4 := T3.own K4 hpr.1 hpr.2
    clear M3 T3 K4
    go_wp2_with fail
    refine (bank_any m p r c _ _ _ _ M4).mono ?_
    rintro e w5 ⟨rfl, rfl⟩
    go_wp2_with fail
    refine (last_any p r _ _ _ _ M4.bk).mono ?_
    rintro e w6 ⟨rfl, K6⟩
    have T6 := T4.trans K6
    clear M4 T4 K6
    go_wp2_with fail
    refine (alive_any _ (HT0.out _ T6)).mono ?_
    rintro e w7 ⟨rfl, K7⟩
    go_wp2_with fail
    refine (P1.out _).mono ?_
    rintro e w8 ⟨rfl, K8⟩
    go_wp2_with fail
    refine (P2.out _).mono ?_
    rintro e w9 ⟨rfl, K9⟩
    go_wp2
    go_ret
    exact ⟨rfl, ((T6.trans K7).trans K8).trans K9⟩

set_option maxRecDepth 100000 in
theorem memMarks_lifted (os : Os) (started : os.Started) (H : Type) (enc : TypeId × Value → H) :
    ReturnsInHanded {} Tryd.checked os 7 .any (fun w args => (Rows.memMarksSpec.pre enc Tryd.prog Tryd.f7 [] false w args ∧ laidMetH Tryd.prog laid1 w) ∧ sizedMet enc Tryd.prog Tryd.f7 (OpenSpec.ofChange Rows.memMarksSpec) false w args)
      (Rows.memMarksSpec.post enc Tryd.prog Tryd.f7 false true false false) := by
  refine returnsInHanded_of_change_and (C := Tryd.checked) (X := fun w _ => laidMetH Tryd.prog laid1 w) (fun _ _ _ hh h => h.of_heap hh) own started (by kernel_rfl) Tryd.func7
    (ChangeSpec.witness_shaped (enc := enc) (C := Tryd.checked) (os := os) (X := fun w _ => laidMetH Tryd.prog laid1 w) false (World.doorLaid Tryd.prog 400 os) #[.agg #[.int .i64 0, .int .i64 0, .int .i64 0, .int .i64 0, .int .i64 0, .int .i64 0, .int .i64 0], .slice none 0 0, .agg #[.int .u64 0, .int .u64 0, .int .u64 0]] 8 rfl (World.shaped_of_RefB (by kernel_rfl) (by kernel_rfl)) (by kernel_rfl) (by kernel_rfl) (by kernel_rfl) (door_met os _)) ?_
  intro W base args ds gs before hval0 hW _ _ hL _
  have hval : ∀ (j : Nat) t v, Tryd.f7.params[j]? = some t → args[j]? = some v → Value.okWide Tryd.prog W .any base t v := hval0
  have hW' := hW
  obtain ⟨p, q, hA0, hV, rfl, _, _⟩ := hW
  have hA : DataW.TrodAll enc Tryd.prog W 0 (fun _ => true) true Tryd.f7.params.toList args.toList ds p := hA0
  rw [Tryd.params7] at hA hval
  clear hA0 hval0
  obtain ⟨v0, vs0, d0, ds0, p0, q0, hargs, rfl, rfl, h0, r0⟩ := trodAll_cons hA
  obtain ⟨v1, vs1, d1, ds1, p1, q1, rfl, rfl, rfl, h1, r1⟩ := trodAll_cons r0
  obtain ⟨v2, vs2, d2, ds2, p2, q2, rfl, rfl, rfl, h2, r2⟩ := trodAll_cons r1
  obtain ⟨rfl, rfl, rfl⟩ := trodAll_nil r2
  obtain rfl : args = #[v0, v1, v2] := by cases args; simp_all
  obtain ⟨rfl, rfl⟩ := trodVars_none hV
  have k0 := h0
  have k1 := h1
  have k2 := h2
  simp only [List.append_nil] at hW'
  have hlt0 : ∀ x ∈ p0, x.block < W.heap.size := fun x hx => hW'.lt x (by simp [hx])
  have hlt1 : ∀ x ∈ p1, x.block < W.heap.size := fun x hx => hW'.lt x (by simp [hx])
  have hlt2 : ∀ x ∈ p2, x.block < W.heap.size := fun x hx => hW'.lt x (by simp [hx])
  obtain ⟨c0, rfl, g0⟩ := open_cfg (hval 0 23 v0 rfl rfl) h0
  obtain ⟨ao1, cap1, xs1, rfl, s1, g1, z1, n1⟩ := open_words (hval 1 37 v1 rfl rfl) h1
  obtain ⟨y2, z2, u2, rfl, w2⟩ := open_arr3 (hval 2 66 v2 rfl rfl) h2
  refine (memMarks_walk W c0 g0 ao1 xs1 cap1 s1 g1 n1 y2 z2 u2 w2 (tab_of_laid hL)).mono fun e W' ⟨he, hg⟩ => ?_
  subst he
  have hb := hg.below (by simp)
  exact ⟨_, rfl, _, _, _, [], _, [], hW', (trodAll_cons_mk (shut_bool Tryd.underlying4 _) trodAll_mk0), (trodAll_cons_mk (Below.trod laidOut (by kernel_rfl) (of_decide_eq_true (by kernel_rfl)) k0 hb hlt0) (trodAll_cons_mk (Below.trod laidOut (by kernel_rfl) (of_decide_eq_true (by kernel_rfl)) k1 hb hlt1) (trodAll_cons_mk (Below.trod laidOut (by kernel_rfl) (of_decide_eq_true (by kernel_rfl)) k2 hb hlt2) trodAll_mk0))), rfl, hb.frame _, fun h => by cases h⟩

theorem memMarks_over : Rows.MemMarksSaid :=
  OpenClaim.holds_of_wide 7 Tryd.f7 rfl rfl rfl rfl rfl rfl rfl ⟨rfl, rfl, rfl, rfl, rfl⟩ rfl rfl rfl rfl rfl (by kernel_rfl) Tryd.func7 (by kernel_rfl)
    (of_decide_eq_true (by kernel_rfl)) (by unfold Func.isWrapper; first | (rw [if_pos (by decide +kernel)]; kernel_rfl) | (rw [if_neg (by decide +kernel)]; exact ⟨rfl, rfl⟩))
    (fun os started H enc _ => memMarks_lifted os started H enc)

theorem memMarks_holds : Rows.MemMarksCardSaid :=
  Claim7.holds_tied_plain_at .later [] [.data] true (true, "8fbe9499f1103e4c4dda2993993749ae3f6b66e8777a4b39f9f429556d4835eb") false
    memMarks_over (fun _ h => by cases h) (by kernel_rfl) (fun _ h => by cases h) memMarks_row_tie rfl ⟨rfl, rfl⟩ (by kernel_rfl) rfl
    (fun f fn hf hfn => by
      obtain rfl : f = 7 := Option.some.inj ((show Tryd.prog.funcNamed "stepstone/stepstonelaw05.MemMarks" = some 7 by kernel_rfl).symm.trans hf) |>.symm
      obtain rfl : fn = Tryd.f7 := (Option.some.inj (Tryd.func7.symm.trans hfn)).symm
      exact ⟨by kernel_rfl, fun j t ht => by
          rw [Tryd.params7] at ht
          rcases j with _ | j
          · have : t = 23 := by simpa using ht.symm
            subst this; exact (show Tryd.prog.wantsStandIn 23 = false by kernel_rfl)
          rcases j with _ | j
          · have : t = 37 := by simpa using ht.symm
            subst this; exact (show Tryd.prog.wantsStandIn 37 = false by kernel_rfl)
          rcases j with _ | j
          · have : t = 66 := by simpa using ht.symm
            subst this; exact (show Tryd.prog.wantsStandIn 66 = false by kernel_rfl)
          simp at ht⟩)
    (by kernel_rfl)
#print axioms memMarks_holds
end Go.Proofs.YtahdhekbancapaaDoor
