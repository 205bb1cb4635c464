/-
  The contracts of package claim: giving a slot back.
-/
import Derived.Test.YtmmpafhfanldbaaDoorKStep
namespace Go.Proofs.YtmmpafhfanldbaaDoor
open Go.RowKit (Grown Hid Below)
open Go.Deep
namespace K
theorem gen_is {x v : Int} (h : gnV x = v) (w : World) (hT : Tab w) (h0 : 0 ≤ x) (h1 : x < 18446744073709551616) : Calls Tryd.prog 31 #[.int .u64 x] w fun e w' => e = .returned (.int .i64 v) ∧ Kept [] w w' := h ▸ gen_any x w hT h0 h1
/-- The word that a slot has when it is given back. -/
def bkV (c : Cfg) (h : Int) : Int := S.afV (gnV h) c.l
set_option maxRecDepth 100000 in
set_option maxHeartbeats 2000000 in
theorem back_any (m p r : Nat) (c : Cfg) (cs : List Int) (cnt : Int) (a : Acc) (h : Int) (w : World) (hM : Mm w m p r c cs cnt a) (hT : Tab w) (h0 : 0 ≤ h) (h1 : h < 18446744073709551616) (c0 : 0 ≤ cnt) (c1 : cnt < 4611686018427387904) :
    Calls Tryd.prog 20 #[.pointer (some ⟨m, 0, none⟩), .int .u64 h] w fun e w' => e = .returned (.tuple #[]) ∧ Mm w' m p r c (clV cs 2 (clV' c (ixV h) 0) 0 (bkV c h)) (cnt + 1) (acV cs 2 (clV' c (ixV h) 0) 0 0 (bkV c h)) ∧ Kept [p, r] w w' := by
  obtain ⟨I, hI⟩ : ∃ I, ixV h = I := ⟨_, rfl⟩
  obtain ⟨G, hG⟩ : ∃ G, gnV h = G := ⟨_, rfl⟩
  obtain ⟨V, hV⟩ : ∃ V, S.afV G c.l = V := ⟨_, rfl⟩
  have e : bkV c h = V := by unfold bkV; rw [hG, hV]
  rw [hI, e]; clear e
  have F2 := fldlast c
  have IX : Hid (∀ W' : World, Kept [] w W' → Calls Tryd.prog 29 #[.int .u64 h] W' fun e w' => e = .returned (.int .i64 I) ∧ Kept [] w w') := fun W' k => (index_is hI W' (hT.kept k) h0 h1).mono fun _ _ hh => ⟨hh.1, k.trans hh.2⟩
  have GN : Hid (∀ W' : World, Kept [] w W' → Calls Tryd.prog 31 #[.int .u64 h] W' fun e w' => e = .returned (.int .i64 G) ∧ Kept [] w w') := fun W' k => (gen_is hG W' (hT.kept k) h0 h1).mono fun _ _ hh => ⟨hh.1, k.trans hh.2⟩
  have CF : Hid (∀ W' : World, Kept [] w W' → Calls Tryd.prog 52 #[.agg #[.int .i64 c.t, .int .i64 c.s, .int .i64 c.c, .int .i64 c.h, .int .i64 c.k, .int .i64 c.e, .int .i64 c.l]] W' fun e w' => e = .returned c.val ∧ Kept [] w w') := fun W' k => (config_any c W').mono fun _ _ hh => ⟨hh.1, k.trans hh.2⟩
  have AF : Hid (∀ W' : World, Kept [] w W' → Calls Tryd.prog 51 #[.int .i64 G, .int .i64 c.l] W' fun e w' => e = .returned (.int .u64 V) ∧ Kept [] w w') := fun W' k => hV ▸ (S.after_any G c.l W').mono fun _ _ hh => ⟨hh.1, k.trans hh.2⟩
  have RL : Hid (∀ W' : World, Kept [] w W' → Calls Tryd.prog 50 #[.pointer (some ⟨m, 0, none⟩), .int .i64 I, .int .u64 V] W' fun e w' => e = .returned (.tuple #[]) ∧ Mm w' m p r c (clV cs 2 (clV' c I 0) 0 V) (cnt + 1) (acV cs 2 (clV' c I 0) 0 0 V) ∧ Kept [p, r] w w') := fun W' k => (mrelease_any m p r c cs cnt a I V W' (hM.new k) c0 c1).mono fun _ _ hh => ⟨hh.1, hh.2.1, (k.weaken (m := [p, r]) (by simp)).trans hh.2.2⟩
  have HS : Hid (∀ W' : World, Kept [p, r] w W' → W'.cell? ⟨m, 0, none⟩ = some (.int .i64 c.t) ∧ W'.cell? ⟨m, 1, none⟩ = some (.int .i64 c.s) ∧ W'.cell? ⟨m, 2, none⟩ = some (.int .i64 c.c) ∧ W'.cell? ⟨m, 3, none⟩ = some (.int .i64 c.h) ∧ W'.cell? ⟨m, 4, none⟩ = some (.int .i64 c.k) ∧ W'.cell? ⟨m, 5, none⟩ = some (.int .i64 c.e) ∧ W'.cell? ⟨m, 6, none⟩ = some (.int .i64 c.l)) := by
    intro W' k
    have z := k.blk hM.st (by simp [hM.mp, hM.mr])
    exact ⟨cell_of_blk z (i := 0) rfl, cell_of_blk z (i := 1) rfl, cell_of_blk z (i := 2) rfl, cell_of_blk z (i := 3) rfl, cell_of_blk z (i := 4) rfl, cell_of_blk z (i := 5) rfl, cell_of_blk z (i := 6) rfl⟩
  clear hI hG hV hM hT
  generalize acV cs 2 (clV' c I 0) 0 0 V = A at *
  generalize clV cs 2 (clV' c I 0) 0 V = C at *
  go_enter Tryd.func20, Tryd.ntmps20
  go_wp2_with fail
  go_region_held3 (fun W' => W'.cell? ⟨m, 0, none⟩ = some (.int .i64 c.t) ∧ W'.cell? ⟨m, 1, none⟩ = some (.int .i64 c.s) ∧ W'.cell? ⟨m, 2, none⟩ = some (.int .i64 c.c) ∧ W'.cell? ⟨m, 3, none⟩ = some (.int .i64 c.h) ∧ W'.cell? ⟨m, 4, none⟩ = some (.int .i64 c.k) ∧ W'.cell? ⟨m, 5, none⟩ = some (.int .i64 c.e) ∧ W'.cell? ⟨m, 6, none⟩ = some (.int .i64 c.l))
    (first | exact HS.out _ (by assumption) | exact HS.out _ (Kept.weaken (m := [p, r]) (by assumption) (by simp)) | exact HS.out _ (Kept.refl _ _).drew | exact HS.out _ (Kept.refl _ _))
    (first
      | (go_at_call 29; refine (IX.out _ (by first | assumption | exact (Kept.refl _ _).drew)).mono ?_; rintro e w3 ⟨rfl, K3⟩)
      | (go_at_call 31; refine (GN.out _ (by first | assumption | exact (Kept.refl _ _).drew)).mono ?_; rintro e w4 ⟨rfl, K4⟩)
      | (go_at_call 52; refine (CF.out _ (by first | assumption | exact (Kept.refl _ _).drew)).mono ?_; rintro e w5 ⟨rfl, K5⟩)
      | (go_at_call 51; refine (AF.out _ (by first | assumption | exact (Kept.refl _ _).drew)).mono ?_; rintro e w6 ⟨rfl, K6⟩)
      | (go_at_call 50; refine (RL.out _ (by assumption)).mono ?_; rintro e w7 ⟨rfl, M7, K7⟩))
  all_goals
    go_wp2
    go_end0
    exact ⟨rfl, M7, K7⟩
end K
end Go.Proofs.YtmmpafhfanldbaaDoor
