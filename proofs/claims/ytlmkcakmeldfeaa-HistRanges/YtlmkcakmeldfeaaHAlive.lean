/-
  The two events that each statement asks of, in either order.
-/
import Derived.Test.YtlmkcakmeldfeaaHBuild
namespace Go.Proofs.Ytlmkcakmeldfeaa.Q
set_option maxRecDepth 100000
open Go.RowKit
open Go.Deep
def evPut : Ev := ⟨0, ⟨2, 5, 7, 0, 0⟩, 1, 3, 4, true, false, false, 0, none, 0, []⟩
def evGet : Ev := ⟨0, ⟨1, 5, 0, 0, 0⟩, 2, 5, 6, true, false, true, 7, none, 0, []⟩
def evEar : Ev := ⟨0, ⟨1, 5, 0, 0, 0⟩, 2, 2, 6, true, false, true, 7, none, 0, []⟩
def evAll (g : Nat) : Ev := ⟨0, ⟨5, 0, 9, 1, 0⟩, 3, 0, 4, true, false, false, 0, some ⟨g, 0, none⟩, 1, [5]⟩
def evNon : Ev := ⟨0, ⟨5, 0, 9, 1, 0⟩, 3, 0, 4, true, false, false, 0, none, 0, []⟩
structure Alv (w W : World) (H : Nat) : Prop where
  put : EB 53 W H evPut
  get : EB 53 W (H + 1) evGet
  ear : EB 53 W (H + 1 + 1) evEar
  row : Row W (H + 1 + 1 + 1) [5]
  all : EB 53 W (H + 1 + 1 + 1 + 1) (evAll (H + 1 + 1 + 1))
  non : EB 53 W (H + 1 + 1 + 1 + 1 + 1) evNon
  kept : Kept [] w W
theorem Alv.new {w W W' : World} {H : Nat} (h : Alv w W H) (k : Kept [] W W') : Alv w W' H :=
  ⟨h.put.kept k (by simp), h.get.kept k (by simp), h.ear.kept k (by simp), h.row.kept k (by simp), h.all.kept k (by simp), h.non.kept k (by simp), h.kept.trans k⟩
theorem Alv.keys {w W : World} {H : Nat} (h : Alv w W H) : ∀ e, (e = evPut ∨ e = evGet ∨ e = evEar ∨ e = evAll (H + 1 + 1 + 1) ∨ e = evNon) → Sl W e.ka e.ks ∧ e.op.k ≤ 18446744073709551615 ∧ e.ks.length ≤ 1000 ∧ (Lit.int .u64 e.op.k).wf = true ∧ ∀ k ∈ e.ks, (Lit.int .u64 k).wf = true := by
  rintro e (rfl | rfl | rfl | rfl | rfl)
  · exact ⟨fun h => absurd h (by simp [evPut]), by decide, by decide, by decide, by simp [evPut]⟩
  · exact ⟨fun h => absurd h (by simp [evGet]), by decide, by decide, by decide, by simp [evGet]⟩
  · exact ⟨fun h => absurd h (by simp [evEar]), by decide, by decide, by decide, by simp [evEar]⟩
  · exact ⟨h.row.sl, by simp [evAll], by simp [evAll], by simp [evAll]; decide, by intro k hk; simp [evAll] at hk; subst hk; decide⟩
  · exact ⟨fun h => absurd h (by simp [evNon]), by decide, by decide, by decide, by simp [evNon]⟩
theorem Alv.evs {w W : World} {H g n : Nat} {T : TypeId} {es : List Ev} (h : Alv w W H) (hb : W.heap[g]? = some (.cells (es.flatMap evL).toArray T (0, 0))) (hn : n = es.length) (hm : ∀ e ∈ es, e = evPut ∨ e = evGet ∨ e = evEar ∨ e = evAll (H + 1 + 1 + 1) ∨ e = evNon) : Evs W (some ⟨g, 0, none⟩) n es ∧ Ksl es ∧ KWf es :=
  ⟨⟨hn, evs_blk hb, fun e he => (h.keys e (hm e he)).1, fun e he => (h.keys e (hm e he)).2.1⟩, fun e he => (h.keys e (hm e he)).2.2.1, ⟨fun e he => (h.keys e (hm e he)).2.2.2.1, fun e he => (h.keys e (hm e he)).2.2.2.2⟩⟩
theorem al_ord (g : Nat) : ordOf [evGet, evPut, evAll g] = [1, 0] := by rfl
theorem al_map : mpA [evGet, evPut] 3 = [⟨5, 7⟩] := by rfl
theorem al_map2 : mpA [evPut] 2 = [] := by rfl
theorem al_leg : lgB [evGet, evPut] = true := by rfl
theorem al_ill : lgB [evEar, evPut] = false := by rfl
theorem al_rng (g : Nat) : rgB [evPut, evAll g] = true := by rfl
theorem al_non : rgB [evPut, evNon] = false := by rfl
set_option maxHeartbeats 8000000 in
theorem alive_any (w : World) : Calls Try.prog 10 #[] w fun o w' => o = .returned (.bool true) ∧ Kept [] w w' := by
  go_enter Try.func10, Try.ntmps10
  go_upto_region 8 with (fail)
  obtain ⟨H, hH⟩ : ∃ H, H = w.heap.size := ⟨_, rfl⟩
  rw [← hH]
  refine gen_world (fun W => Alv w W H) ?_ ?_
  · subst hH
    refine ⟨?_, ?_, ?_, ?_, ?_, ?_, (((((((Kept.refl _ _).alloc _).alloc _).alloc _).alloc _).alloc _).alloc _)⟩
    · exact box_alloc (box_alloc (box_alloc (box_alloc (box_alloc (blk_alloc_new _ _) _) _) _) _) _
    · have q := box_alloc (box_alloc (box_alloc (box_alloc (blk_alloc_new (w.alloc (.cells (evA evPut) 53)) (.cells (evA evGet) 53)) (.cells (evA evEar) 53)) (.cells #[.int .u64 5] 41)) (.cells (evA (evAll (w.heap.size + 1 + 1 + 1))) 53)) (.cells (evA evNon) 53)
      simp only [nblk_alloc] at q; exact q
    · have q := box_alloc (box_alloc (box_alloc (blk_alloc_new ((w.alloc (.cells (evA evPut) 53)).alloc (.cells (evA evGet) 53)) (.cells (evA evEar) 53)) (.cells #[.int .u64 5] 41)) (.cells (evA (evAll (w.heap.size + 1 + 1 + 1))) 53)) (.cells (evA evNon) 53)
      simp only [nblk_alloc] at q; exact q
    · have q := box_alloc (box_alloc (blk_alloc_new (((w.alloc (.cells (evA evPut) 53)).alloc (.cells (evA evGet) 53)).alloc (.cells (evA evEar) 53)) (.cells #[.int .u64 5] 41)) (.cells (evA (evAll (w.heap.size + 1 + 1 + 1))) 53)) (.cells (evA evNon) 53)
      simp only [nblk_alloc] at q; exact q
    · have q := box_alloc (blk_alloc_new ((((w.alloc (.cells (evA evPut) 53)).alloc (.cells (evA evGet) 53)).alloc (.cells (evA evEar) 53)).alloc (.cells #[.int .u64 5] 41)) (.cells (evA (evAll (w.heap.size + 1 + 1 + 1))) 53)) (.cells (evA evNon) 53)
      simp only [nblk_alloc] at q; exact q
    · have q := blk_alloc_new (((((w.alloc (.cells (evA evPut) 53)).alloc (.cells (evA evGet) 53)).alloc (.cells (evA evEar) 53)).alloc (.cells #[.int .u64 5] 41)).alloc (.cells (evA (evAll (w.heap.size + 1 + 1 + 1))) 53)) (.cells (evA evNon) 53)
      simp only [nblk_alloc] at q; exact q
  clear hH
  intro W A
  go_wp2_with (first
      | ((with_reducible change wpList _ _ _ (Oper.mk _ (Op.load 53 (Operand.tmp 1)) _ _ _ _ :: _) _ _); refine wpList_load_g 53 isEv_hist rfl (.tmp 1) rfl _ 0 rfl evPut A.put.range ?_)
      | ((with_reducible change wpList _ _ _ (Oper.mk _ (Op.load 53 (Operand.tmp 2)) _ _ _ _ :: _) _ _); refine wpList_load_g 53 isEv_hist rfl (.tmp 2) rfl _ 0 rfl evGet A.get.range ?_)
      | ((with_reducible change wpList _ _ _ (Oper.mk _ (Op.load 53 (Operand.tmp 3)) _ _ _ _ :: _) _ _); refine wpList_load_g 53 isEv_hist rfl (.tmp 3) rfl _ 0 rfl evEar A.ear.range ?_)
      | ((with_reducible change wpList _ _ _ (Oper.mk _ (Op.load 53 (Operand.tmp 4)) _ _ _ _ :: _) _ _); refine wpList_load_g 53 isEv_hist rfl (.tmp 4) rfl _ 0 rfl (evAll (H + 1 + 1 + 1)) A.all.range ?_)
      | ((with_reducible change wpList _ _ _ (Oper.mk _ (Op.load 53 (Operand.tmp 5)) _ _ _ _ :: _) _ _); refine wpList_load_g 53 isEv_hist rfl (.tmp 5) rfl _ 0 rfl evNon A.non.range ?_)
      | ((with_reducible change wpList _ _ _ (Oper.mk _ (Op.buildSlice 27 3 #[(0, Operand.tmp 22), (1, Operand.tmp 23), (2, Operand.tmp 24)]) _ _ _ _ :: _) _ _); refine wpList_build3 rfl (.tmp 22) (.tmp 23) (.tmp 24) rfl evGet evPut (evAll (H + 1 + 1 + 1)) rfl rfl rfl ?_))
  have KB := (Kept.refl [] W).alloc (.cells ([evGet, evPut, (evAll (H + 1 + 1 + 1))].flatMap evL).toArray 53)
  have EV := (A.new KB).evs (n := 3) (blk_alloc_new W (.cells ([evGet, evPut, (evAll (H + 1 + 1 + 1))].flatMap evL).toArray 53)) rfl (by intro e he; simp at he; rcases he with rfl | rfl | rfl <;> simp)
  refine (order_any _ _ _ _ _ EV.1.len EV.1.row (by decide)).mono ?_
  rintro o w1 ⟨ord, bo, m, c', rfl, hm, I1, S1, K1⟩
  have IE := I1.eq
  rw [al_ord] at IE
  subst IE
  have hm2 : m = 2 := hm
  subst hm2
  have A2 := (A.new KB).new K1
  obtain ⟨bq, oq, rfl, _, q0⟩ := SlI.cell S1 (k := 0) (by decide)
  have SI : Hid (SlI w1 (some ⟨bq, oq, none⟩) [1, 0]) := S1
  clear A KB EV I1 S1 K1 hm q0
  have A := A2
  clear A2
  go_wp2_with (first
      | ((with_reducible change wpList _ _ _ (Oper.mk _ (Op.load 53 (Operand.tmp 1)) _ _ _ _ :: _) _ _); refine wpList_load_g 53 isEv_hist rfl (.tmp 1) rfl _ 0 rfl evPut A.put.range ?_)
      | ((with_reducible change wpList _ _ _ (Oper.mk _ (Op.load 53 (Operand.tmp 2)) _ _ _ _ :: _) _ _); refine wpList_load_g 53 isEv_hist rfl (.tmp 2) rfl _ 0 rfl evGet A.get.range ?_)
      | ((with_reducible change wpList _ _ _ (Oper.mk _ (Op.load 53 (Operand.tmp 3)) _ _ _ _ :: _) _ _); refine wpList_load_g 53 isEv_hist rfl (.tmp 3) rfl _ 0 rfl evEar A.ear.range ?_)
      | ((with_reducible change wpList _ _ _ (Oper.mk _ (Op.load 53 (Operand.tmp 4)) _ _ _ _ :: _) _ _); refine wpList_load_g 53 isEv_hist rfl (.tmp 4) rfl _ 0 rfl (evAll (H + 1 + 1 + 1)) A.all.range ?_)
      | ((with_reducible change wpList _ _ _ (Oper.mk _ (Op.load 53 (Operand.tmp 5)) _ _ _ _ :: _) _ _); refine wpList_load_g 53 isEv_hist rfl (.tmp 5) rfl _ 0 rfl evNon A.non.range ?_)
      | ((with_reducible change wpList _ _ _ (Oper.mk _ (Op.buildSlice 27 2 #[(0, Operand.tmp 27), (1, Operand.tmp 28)]) _ _ _ _ :: _) _ _); refine wpList_build2 rfl (.tmp 27) (.tmp 28) rfl evGet evPut rfl rfl ?_))
  have KB := (Kept.refl [] w1).alloc (.cells ([evGet, evPut].flatMap evL).toArray 53)
  have EV := (A.new KB).evs (n := 2) (blk_alloc_new w1 (.cells ([evGet, evPut].flatMap evL).toArray 53)) rfl (by intro e he; simp at he; rcases he with rfl | rfl <;> simp)
  refine (hmap_any _ _ _ _ 3 _ EV.1 (by decide)).mono ?_
  rintro o w2 ⟨mo, mn, mc, rfl, M2, K2⟩
  rw [al_map] at M2
  have hmn : mn = 1 := M2.1
  subst hmn
  have A2 := (A.new KB).new K2
  have SI2 : Hid (SlI w2 (some ⟨bq, oq, none⟩) [1, 0]) := (SI.out.new KB).new K2
  clear A KB EV SI K2
  go_wp2_with (first
    | (go_at_call 17; refine (pairs_any mo _ 1 mc w2 M2 (by decide)).mono ?_; rintro o w3 ⟨po, pc, rfl, M3, K3⟩; have A3 := A2.new K3; have SI3 : Hid (SlI w3 (some ⟨bq, oq, none⟩) [1, 0]) := SI2.out.new K3; have PP : Hid (MpV w3 po 1 pc [⟨5, 7⟩]) := M3; clear M3 A2 SI2 M2 K3; have A := A3; clear A3)
    | ((with_reducible change wpList _ _ _ (Oper.mk _ (Op.load 53 (Operand.tmp 1)) _ _ _ _ :: _) _ _); refine wpList_load_g 53 isEv_hist rfl (.tmp 1) rfl _ 0 rfl evPut A.put.range ?_)
      | ((with_reducible change wpList _ _ _ (Oper.mk _ (Op.load 53 (Operand.tmp 2)) _ _ _ _ :: _) _ _); refine wpList_load_g 53 isEv_hist rfl (.tmp 2) rfl _ 0 rfl evGet A.get.range ?_)
      | ((with_reducible change wpList _ _ _ (Oper.mk _ (Op.load 53 (Operand.tmp 3)) _ _ _ _ :: _) _ _); refine wpList_load_g 53 isEv_hist rfl (.tmp 3) rfl _ 0 rfl evEar A.ear.range ?_)
      | ((with_reducible change wpList _ _ _ (Oper.mk _ (Op.load 53 (Operand.tmp 4)) _ _ _ _ :: _) _ _); refine wpList_load_g 53 isEv_hist rfl (.tmp 4) rfl _ 0 rfl (evAll (H + 1 + 1 + 1)) A.all.range ?_)
      | ((with_reducible change wpList _ _ _ (Oper.mk _ (Op.load 53 (Operand.tmp 5)) _ _ _ _ :: _) _ _); refine wpList_load_g 53 isEv_hist rfl (.tmp 5) rfl _ 0 rfl evNon A.non.range ?_)
    | ((with_reducible change wpList _ _ _ (Oper.mk _ (Op.buildSlice 27 2 #[(0, Operand.tmp 32), (1, Operand.tmp 33)]) _ _ _ _ :: _) _ _); refine wpList_build2 rfl (.tmp 32) (.tmp 33) rfl evGet evPut rfl rfl ?_))
  have KB := (Kept.refl [] w3).alloc (.cells ([evGet, evPut].flatMap evL).toArray 53)
  have EV := (A.new KB).evs (n := 2) (blk_alloc_new w3 (.cells ([evGet, evPut].flatMap evL).toArray 53)) rfl (by intro e he; simp at he; rcases he with rfl | rfl <;> simp)
  have hc := legal_any _ _ _ 2 _ EV.1 (by decide) EV.2.1
  rw [al_leg] at hc
  refine hc.mono ?_
  rintro o w4 ⟨rfl, K4⟩
  have A2 := (A.new KB).new K4
  have SI4 : Hid (SlI w4 (some ⟨bq, oq, none⟩) [1, 0]) := (SI3.out.new KB).new K4
  have PP4 : Hid (MpV w4 po 1 pc [⟨5, 7⟩]) := (PP.out.new KB).new K4
  clear A KB EV SI3 PP hc K4
  have A := A2
  have SI3 := SI4
  have PP := PP4
  clear A2 SI4 PP4
  go_wp2_with (first
      | ((with_reducible change wpList _ _ _ (Oper.mk _ (Op.load 53 (Operand.tmp 1)) _ _ _ _ :: _) _ _); refine wpList_load_g 53 isEv_hist rfl (.tmp 1) rfl _ 0 rfl evPut A.put.range ?_)
      | ((with_reducible change wpList _ _ _ (Oper.mk _ (Op.load 53 (Operand.tmp 2)) _ _ _ _ :: _) _ _); refine wpList_load_g 53 isEv_hist rfl (.tmp 2) rfl _ 0 rfl evGet A.get.range ?_)
      | ((with_reducible change wpList _ _ _ (Oper.mk _ (Op.load 53 (Operand.tmp 3)) _ _ _ _ :: _) _ _); refine wpList_load_g 53 isEv_hist rfl (.tmp 3) rfl _ 0 rfl evEar A.ear.range ?_)
      | ((with_reducible change wpList _ _ _ (Oper.mk _ (Op.load 53 (Operand.tmp 4)) _ _ _ _ :: _) _ _); refine wpList_load_g 53 isEv_hist rfl (.tmp 4) rfl _ 0 rfl (evAll (H + 1 + 1 + 1)) A.all.range ?_)
      | ((with_reducible change wpList _ _ _ (Oper.mk _ (Op.load 53 (Operand.tmp 5)) _ _ _ _ :: _) _ _); refine wpList_load_g 53 isEv_hist rfl (.tmp 5) rfl _ 0 rfl evNon A.non.range ?_)
      | ((with_reducible change wpList _ _ _ (Oper.mk _ (Op.buildSlice 27 2 #[(0, Operand.tmp 37), (1, Operand.tmp 38)]) _ _ _ _ :: _) _ _); refine wpList_build2 rfl (.tmp 37) (.tmp 38) rfl evEar evPut rfl rfl ?_))
  have KB := (Kept.refl [] w4).alloc (.cells ([evEar, evPut].flatMap evL).toArray 53)
  have EV := (A.new KB).evs (n := 2) (blk_alloc_new w4 (.cells ([evEar, evPut].flatMap evL).toArray 53)) rfl (by intro e he; simp at he; rcases he with rfl | rfl <;> simp)
  have hc := legal_any _ _ _ 2 _ EV.1 (by decide) EV.2.1
  rw [al_ill] at hc
  refine hc.mono ?_
  rintro o w5 ⟨rfl, K5⟩
  have A2 := (A.new KB).new K5
  have SI4 : Hid (SlI w5 (some ⟨bq, oq, none⟩) [1, 0]) := (SI3.out.new KB).new K5
  have PP4 : Hid (MpV w5 po 1 pc [⟨5, 7⟩]) := (PP.out.new KB).new K5
  clear A KB EV SI3 PP hc K5
  have A := A2
  have SI3 := SI4
  have PP := PP4
  clear A2 SI4 PP4
  go_wp2_with (first
      | ((with_reducible change wpList _ _ _ (Oper.mk _ (Op.load 53 (Operand.tmp 1)) _ _ _ _ :: _) _ _); refine wpList_load_g 53 isEv_hist rfl (.tmp 1) rfl _ 0 rfl evPut A.put.range ?_)
      | ((with_reducible change wpList _ _ _ (Oper.mk _ (Op.load 53 (Operand.tmp 2)) _ _ _ _ :: _) _ _); refine wpList_load_g 53 isEv_hist rfl (.tmp 2) rfl _ 0 rfl evGet A.get.range ?_)
      | ((with_reducible change wpList _ _ _ (Oper.mk _ (Op.load 53 (Operand.tmp 3)) _ _ _ _ :: _) _ _); refine wpList_load_g 53 isEv_hist rfl (.tmp 3) rfl _ 0 rfl evEar A.ear.range ?_)
      | ((with_reducible change wpList _ _ _ (Oper.mk _ (Op.load 53 (Operand.tmp 4)) _ _ _ _ :: _) _ _); refine wpList_load_g 53 isEv_hist rfl (.tmp 4) rfl _ 0 rfl (evAll (H + 1 + 1 + 1)) A.all.range ?_)
      | ((with_reducible change wpList _ _ _ (Oper.mk _ (Op.load 53 (Operand.tmp 5)) _ _ _ _ :: _) _ _); refine wpList_load_g 53 isEv_hist rfl (.tmp 5) rfl _ 0 rfl evNon A.non.range ?_)
      | ((with_reducible change wpList _ _ _ (Oper.mk _ (Op.buildSlice 27 2 #[(0, Operand.tmp 44), (1, Operand.tmp 45)]) _ _ _ _ :: _) _ _); refine wpList_build2 rfl (.tmp 44) (.tmp 45) rfl evPut (evAll (H + 1 + 1 + 1)) rfl rfl ?_))
  have KB := (Kept.refl [] w5).alloc (.cells ([evPut, (evAll (H + 1 + 1 + 1))].flatMap evL).toArray 53)
  have EV := (A.new KB).evs (n := 2) (blk_alloc_new w5 (.cells ([evPut, (evAll (H + 1 + 1 + 1))].flatMap evL).toArray 53)) rfl (by intro e he; simp at he; rcases he with rfl | rfl <;> simp)
  have hc := ranges_any _ _ _ 2 _ EV.1 (by decide) EV.2.1 EV.2.2
  rw [al_rng] at hc
  refine hc.mono ?_
  rintro o w6 ⟨rfl, K6⟩
  have A2 := (A.new KB).new K6
  have SI4 : Hid (SlI w6 (some ⟨bq, oq, none⟩) [1, 0]) := (SI3.out.new KB).new K6
  have PP4 : Hid (MpV w6 po 1 pc [⟨5, 7⟩]) := (PP.out.new KB).new K6
  clear A KB EV SI3 PP hc K6
  have A := A2
  have SI3 := SI4
  have PP := PP4
  clear A2 SI4 PP4
  go_wp2_with (first
      | ((with_reducible change wpList _ _ _ (Oper.mk _ (Op.load 53 (Operand.tmp 1)) _ _ _ _ :: _) _ _); refine wpList_load_g 53 isEv_hist rfl (.tmp 1) rfl _ 0 rfl evPut A.put.range ?_)
      | ((with_reducible change wpList _ _ _ (Oper.mk _ (Op.load 53 (Operand.tmp 2)) _ _ _ _ :: _) _ _); refine wpList_load_g 53 isEv_hist rfl (.tmp 2) rfl _ 0 rfl evGet A.get.range ?_)
      | ((with_reducible change wpList _ _ _ (Oper.mk _ (Op.load 53 (Operand.tmp 3)) _ _ _ _ :: _) _ _); refine wpList_load_g 53 isEv_hist rfl (.tmp 3) rfl _ 0 rfl evEar A.ear.range ?_)
      | ((with_reducible change wpList _ _ _ (Oper.mk _ (Op.load 53 (Operand.tmp 4)) _ _ _ _ :: _) _ _); refine wpList_load_g 53 isEv_hist rfl (.tmp 4) rfl _ 0 rfl (evAll (H + 1 + 1 + 1)) A.all.range ?_)
      | ((with_reducible change wpList _ _ _ (Oper.mk _ (Op.load 53 (Operand.tmp 5)) _ _ _ _ :: _) _ _); refine wpList_load_g 53 isEv_hist rfl (.tmp 5) rfl _ 0 rfl evNon A.non.range ?_)
      | ((with_reducible change wpList _ _ _ (Oper.mk _ (Op.buildSlice 27 2 #[(0, Operand.tmp 50), (1, Operand.tmp 51)]) _ _ _ _ :: _) _ _); refine wpList_build2 rfl (.tmp 50) (.tmp 51) rfl evPut evNon rfl rfl ?_))
  have KB := (Kept.refl [] w6).alloc (.cells ([evPut, evNon].flatMap evL).toArray 53)
  have EV := (A.new KB).evs (n := 2) (blk_alloc_new w6 (.cells ([evPut, evNon].flatMap evL).toArray 53)) rfl (by intro e he; simp at he; rcases he with rfl | rfl <;> simp)
  have hc := ranges_any _ _ _ 2 _ EV.1 (by decide) EV.2.1 EV.2.2
  rw [al_non] at hc
  refine hc.mono ?_
  rintro o w7 ⟨rfl, K7⟩
  have A2 := (A.new KB).new K7
  have SI4 : Hid (SlI w7 (some ⟨bq, oq, none⟩) [1, 0]) := (SI3.out.new KB).new K7
  have PP4 : Hid (MpV w7 po 1 pc [⟨5, 7⟩]) := (PP.out.new KB).new K7
  clear A KB EV SI3 PP hc K7
  have A := A2
  have SI3 := SI4
  have PP := PP4
  clear A2 SI4 PP4
  obtain ⟨bz, oz, ez, _, q0⟩ := SlI.cell SI3.out (k := 0) (by decide)
  cases ez
  have q0' : w7.cell? ⟨bq, oq, none⟩ = some (.int .i64 1) := by simpa using q0
  obtain ⟨bp, op, rfl, _, p0, p1⟩ := SlP.row PP.out.2.1 (k := 0) (by decide)
  have p0' : w7.cell? ⟨bp, op, none⟩ = some (.int .u64 5) := by simpa using p0
  have p1' : w7.cell? ⟨bp, op + 1, none⟩ = some (.int .u64 7) := by simpa using p1
  have heq := eq_spair 5 7 5 7
  simp only [beq_self_eq_true, Bool.and_self] at heq
  clear q0 p0 p1
  go_wp2_with (first
      | ((with_reducible change wpList _ _ _ (Oper.mk _ (Op.load 53 (Operand.tmp 1)) _ _ _ _ :: _) _ _); refine wpList_load_g 53 isEv_hist rfl (.tmp 1) rfl _ 0 rfl evPut A.put.range ?_)
      | ((with_reducible change wpList _ _ _ (Oper.mk _ (Op.load 53 (Operand.tmp 2)) _ _ _ _ :: _) _ _); refine wpList_load_g 53 isEv_hist rfl (.tmp 2) rfl _ 0 rfl evGet A.get.range ?_)
      | ((with_reducible change wpList _ _ _ (Oper.mk _ (Op.load 53 (Operand.tmp 3)) _ _ _ _ :: _) _ _); refine wpList_load_g 53 isEv_hist rfl (.tmp 3) rfl _ 0 rfl evEar A.ear.range ?_)
      | ((with_reducible change wpList _ _ _ (Oper.mk _ (Op.load 53 (Operand.tmp 4)) _ _ _ _ :: _) _ _); refine wpList_load_g 53 isEv_hist rfl (.tmp 4) rfl _ 0 rfl (evAll (H + 1 + 1 + 1)) A.all.range ?_)
      | ((with_reducible change wpList _ _ _ (Oper.mk _ (Op.load 53 (Operand.tmp 5)) _ _ _ _ :: _) _ _); refine wpList_load_g 53 isEv_hist rfl (.tmp 5) rfl _ 0 rfl evNon A.non.range ?_)
      | ((with_reducible change wpList _ _ _ (Oper.mk _ (Op.buildSlice 27 1 #[(0, Operand.tmp 80)]) _ _ _ _ :: _) _ _); refine wpList_build1 rfl (.tmp 80) rfl evPut rfl ?_))
  have KB := (Kept.refl [] w7).alloc (.cells ([evPut].flatMap evL).toArray 53)
  have EV := (A.new KB).evs (n := 1) (blk_alloc_new w7 (.cells ([evPut].flatMap evL).toArray 53)) rfl (by intro e he; simp at he; subst he; simp)
  have hc := hmap_any _ _ _ 1 2 _ EV.1 (by decide)
  rw [al_map2] at hc
  refine hc.mono ?_
  rintro o w8 ⟨mo, mn, mc, rfl, M8, K8⟩
  have hmn : mn = 0 := M8.1
  subst hmn
  have KT := (A.kept.trans KB).trans K8
  clear hc EV KB A q0' p0' p1' heq
  go_wp2_with (first
    | (go_at_call 17; refine (pairs_any mo _ 0 mc w8 M8 (by decide)).mono ?_; rintro o w9 ⟨po2, pc2, rfl, _, K9⟩))
  go_ret
  exact ⟨rfl, KT.trans K9⟩
end Go.Proofs.Ytlmkcakmeldfeaa.Q
