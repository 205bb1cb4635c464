/-
  The contracts of package mem: its words are a block of its own (how great the world is, and a bank); what each call makes of them.
-/
import Derived.Test.YtgafmklfpiipcaaGreatDoorDoes
import Derived.Test.YtgafmklfpiipcaaGreatDoorPAlive
import Derived.Test.YtgafmklfpiipcaaGreatDoorHWords2
import Derived.Test.YtgafmklfpiipcaaGreatDoorSWords
import Derived.Deep.RegionHeld3
namespace Go.Proofs.YtgafmklfpiipcaaGreatDoor
open Go.RowKit (Grown Hid Below)
open Go.Deep
theorem Tab.keptL {l : List Nat} {w w' : World} (h : Tab w) (k : Kept l w w') (h0 : 0 ∉ l) : Tab w' := by
  have hb : 0 < w.heap.size := lt_of_cell h.1
  have e : ∀ o, w'.cell? ⟨0, o, none⟩ = w.cell? ⟨0, o, none⟩ := fun o => World.cell?_of_block (w := w) (a := ⟨0, o, none⟩) (k.block 0 hb h0)
  unfold Tab; rw [e, e, e, e]; exact h
/-- A world's words: the block m, its bank (the block p, the row r). -/
structure Mm (w : World) (m p r : Nat) (c : Cfg) (cs : List Int) (cnt : Int) (a : Acc) : Prop where
  st : w.heap[m]? = some (.cells #[.int .i64 c.t, .int .i64 c.s, .int .i64 c.c, .int .i64 c.h, .int .i64 c.k, .int .i64 c.e, .int .i64 c.l, .pointer (some ⟨p, 0, none⟩)] 109 (0, 0))
  bk : Bk w p r cs cnt a
  pos : 0 < p ∧ 0 < r
theorem Mm.mp {w : World} {m p r : Nat} {c : Cfg} {cs : List Int} {cnt : Int} {a : Acc} (h : Mm w m p r c cs cnt a) : ¬ m = p := fun e => by
  have z := h.st; rw [e, h.bk.st] at z; simp at z
theorem Mm.mr {w : World} {m p r : Nat} {c : Cfg} {cs : List Int} {cnt : Int} {a : Acc} (h : Mm w m p r c cs cnt a) : ¬ m = r := fun e => by
  have z := h.st; have k := h.bk.row; unfold Row at k; rw [e, k] at z; simp at z
theorem Mm.kept {l : List Nat} {w w' : World} {m p r : Nat} {c : Cfg} {cs : List Int} {cnt : Int} {a : Acc} (h : Mm w m p r c cs cnt a) (k : Kept l w w') (hm : m ∉ l) (hp : p ∉ l) (hr : r ∉ l) : Mm w' m p r c cs cnt a :=
  ⟨k.blk h.st hm, h.bk.kept k hp hr, h.pos⟩
theorem Mm.new {w w' : World} {m p r : Nat} {c : Cfg} {cs : List Int} {cnt : Int} {a : Acc} (h : Mm w m p r c cs cnt a) (k : Kept [] w w') : Mm w' m p r c cs cnt a := h.kept k (by simp) (by simp) (by simp)
theorem Mm.step {w w' : World} {m p r : Nat} {c : Cfg} {cs cs' : List Int} {cnt cnt' : Int} {a a' : Acc} (h : Mm w m p r c cs cnt a) (k : Kept [p, r] w w') (b : Bk w' p r cs' cnt' a') : Mm w' m p r c cs' cnt' a' :=
  ⟨k.blk h.st (by simp [h.mp, h.mr]), b, h.pos⟩
theorem Tab.mm {w w' : World} {m p r : Nat} {c : Cfg} {cs : List Int} {cnt : Int} {a : Acc} (h : Tab w) (hM : Mm w m p r c cs cnt a) (k : Kept [p, r] w w') : Tab w' := h.keptL k (by have := hM.pos; simp; omega)
theorem index_is {x v : Int} (h : ixV x = v) (w : World) (hT : Tab w) (h0 : 0 ≤ x) (h1 : x < 18446744073709551616) : Calls Tryz.prog 86 #[.int .u64 x] w fun e w' => e = .returned (.int .i64 v) ∧ Kept [] w w' := h ▸ index_any x w hT h0 h1
def LB (w : World) (b : Nat) (c : Cfg) : Prop := w.heap[b]? = some (.cells #[.int .i64 c.t, .int .i64 c.s, .int .i64 c.c, .int .i64 c.h, .int .i64 c.k, .int .i64 c.e, .int .i64 c.l] 106 (0, 0))
theorem LB.new (w : World) (c : Cfg) : LB (w.alloc (.cells #[.int .i64 c.t, .int .i64 c.s, .int .i64 c.c, .int .i64 c.h, .int .i64 c.k, .int .i64 c.e, .int .i64 c.l] 106)) w.heap.size c := blk_alloc_new w _
set_option maxRecDepth 100000 in
set_option maxHeartbeats 2000000 in
theorem named_any (c : Cfg) (h f : Int) (w : World) (hT : Tab w) (h0 : 0 ≤ h) (h1 : h < 18446744073709551616) :
    Calls Tryz.prog 56 #[.agg #[.int .i64 c.t, .int .i64 c.s, .int .i64 c.c, .int .i64 c.h, .int .i64 c.k, .int .i64 c.e, .int .i64 c.l], .int .u64 h, .int .i64 f] w fun e w' => e = .returned (.int .i64 (clV' c (ixV h) f)) ∧ Kept [] w w' := by
  have Z := LB.new w c
  have K0 : Kept [] w (w.alloc (.cells #[.int .i64 c.t, .int .i64 c.s, .int .i64 c.c, .int .i64 c.h, .int .i64 c.k, .int .i64 c.e, .int .i64 c.l] 106)) := (Kept.refl _ _).alloc _
  obtain ⟨I, hI⟩ : ∃ I, ixV h = I := ⟨_, rfl⟩
  rw [hI]
  obtain ⟨X, hX⟩ : ∃ X, clV' c I f = X := ⟨_, rfl⟩
  rw [hX]
  have HI : Hid (∀ W' : World, Kept [] w W' → Calls Tryz.prog 86 #[.int .u64 h] W' fun e w' => e = .returned (.int .i64 I) ∧ Kept [] W' w') := fun W' k => index_is hI W' (hT.kept k) h0 h1
  have HX : Hid _ := hX
  clear hI hX hT h0 h1
  go_enter Tryz.func56, Tryz.ntmps56
  go_wp2_with fail
  generalize (w.alloc (.cells #[.int .i64 c.t, .int .i64 c.s, .int .i64 c.c, .int .i64 c.h, .int .i64 c.k, .int .i64 c.e, .int .i64 c.l] 106)) = W at Z K0 ⊢
  have q0 : ∀ u : KW W, u.val.cell? ⟨w.heap.size, 0, none⟩ = some (.int .i64 c.t) := KW.cell (cell_of_blk Z (i := 0) rfl)
  have q1 : ∀ u : KW W, u.val.cell? ⟨w.heap.size, 1, none⟩ = some (.int .i64 c.s) := KW.cell (cell_of_blk Z (i := 1) rfl)
  have q2 : ∀ u : KW W, u.val.cell? ⟨w.heap.size, 2, none⟩ = some (.int .i64 c.c) := KW.cell (cell_of_blk Z (i := 2) rfl)
  have q3 : ∀ u : KW W, u.val.cell? ⟨w.heap.size, 3, none⟩ = some (.int .i64 c.h) := KW.cell (cell_of_blk Z (i := 3) rfl)
  have q4 : ∀ u : KW W, u.val.cell? ⟨w.heap.size, 4, none⟩ = some (.int .i64 c.k) := KW.cell (cell_of_blk Z (i := 4) rfl)
  have q5 : ∀ u : KW W, u.val.cell? ⟨w.heap.size, 5, none⟩ = some (.int .i64 c.e) := KW.cell (cell_of_blk Z (i := 5) rfl)
  have q6 : ∀ u : KW W, u.val.cell? ⟨w.heap.size, 6, none⟩ = some (.int .i64 c.l) := KW.cell (cell_of_blk Z (i := 6) rfl)
  refine wp_region_kept (by kernel_rfl) (by kernel_rfl) ?_
  repeat (first | go_big_quiet_step ((first | (go_at_call 86; exact Calls.kw_of (HI.out _ (K0.trans (KW.kept _)))) | (go_at_call 85; exact Calls.kw_of (cell_is HX.out _)))) | quiet_step ((first | (go_at_call 86; exact Calls.kw_of (HI.out _ (K0.trans (KW.kept _)))) | (go_at_call 85; exact Calls.kw_of (cell_is HX.out _)))))
  refine wpQuiet_nil ?_
  intro _ hw'
  obtain ⟨pq, hw''⟩ := hw'
  subst hw''
  go_wp2
  go_ret
  exact ⟨rfl, K0.trans pq.kept⟩
set_option maxRecDepth 100000 in
set_option maxHeartbeats 2000000 in
theorem reservation_any (c : Cfg) (a b : Int) (w : World) :
    Calls Tryz.prog 120 #[.agg #[.int .i64 c.t, .int .i64 c.s, .int .i64 c.c, .int .i64 c.h, .int .i64 c.k, .int .i64 c.e, .int .i64 c.l], .int .i64 a, .int .i64 b] w fun e w' => e = .returned (.int .i64 (rsV c a b)) ∧ Kept [] w w' := by
  have Z := LB.new w c
  have K0 : Kept [] w (w.alloc (.cells #[.int .i64 c.t, .int .i64 c.s, .int .i64 c.c, .int .i64 c.h, .int .i64 c.k, .int .i64 c.e, .int .i64 c.l] 106)) := (Kept.refl _ _).alloc _
  have q0 := cell_of_blk Z (i := 0) rfl
  have q1 := cell_of_blk Z (i := 1) rfl
  have q2 := cell_of_blk Z (i := 2) rfl
  have q3 := cell_of_blk Z (i := 3) rfl
  have q4 := cell_of_blk Z (i := 4) rfl
  have q5 := cell_of_blk Z (i := 5) rfl
  have q6 := cell_of_blk Z (i := 6) rfl
  have wl : w.heap.size < w.heap.size + 1 := by omega
  go_enter Tryz.func120, Tryz.ntmps120
  go_wp2_with fail
  refine (reserved_is (c := c) rfl _).mono ?_
  rintro e w1 ⟨rfl, K1⟩
  go_wp2
  go_ret
  exact ⟨rfl, K0.trans K1⟩
set_option maxRecDepth 100000 in
set_option maxHeartbeats 2000000 in
theorem clock_any (c : Cfg) (w : World) :
    Calls Tryz.prog 113 #[.agg #[.int .i64 c.t, .int .i64 c.s, .int .i64 c.c, .int .i64 c.h, .int .i64 c.k, .int .i64 c.e, .int .i64 c.l]] w fun e w' => e = .returned (.int .i64 0) ∧ Kept [] w w' := by
  go_enter Tryz.func113, Tryz.ntmps113
  go_wp2
  go_ret
  exact ⟨rfl, (Kept.refl _ _).alloc _⟩
set_option maxRecDepth 100000 in
set_option maxHeartbeats 2000000 in
theorem config_any (c : Cfg) (w : World) :
    Calls Tryz.prog 93 #[.agg #[.int .i64 c.t, .int .i64 c.s, .int .i64 c.c, .int .i64 c.h, .int .i64 c.k, .int .i64 c.e, .int .i64 c.l]] w fun e w' => e = .returned c.val ∧ Kept [] w w' := by
  go_enter Tryz.func93, Tryz.ntmps93
  go_wp2
  exact bodyPost_ret (v := c.val) (by simp [results, Tryz.results93, go_sem, Cfg.val]) rfl ⟨rfl, ((Kept.refl [] w).alloc _).alloc _⟩
set_option maxRecDepth 100000 in
set_option maxHeartbeats 2000000 in
theorem bank_any (m p r : Nat) (c : Cfg) (cs : List Int) (cnt : Int) (a : Acc) (w : World) (hM : Mm w m p r c cs cnt a) :
    Calls Tryz.prog 20 #[.pointer (some ⟨m, 0, none⟩)] w fun e w' => e = .returned (.pointer (some ⟨p, 0, none⟩)) ∧ w' = w := by
  have q7 := cell_of_blk hM.st (i := 7) rfl
  go_enter Tryz.func20, Tryz.ntmps20
  go_wp2
  go_ret
  exact ⟨rfl, rfl⟩
set_option maxRecDepth 100000 in
set_option maxHeartbeats 2000000 in
theorem mload_any (m p r : Nat) (c : Cfg) (cs : List Int) (cnt : Int) (a : Acc) (h f : Int) (w : World) (hM : Mm w m p r c cs cnt a) (hT : Tab w) (h0 : 0 ≤ h) (h1 : h < 18446744073709551616) (c0 : 0 ≤ cnt) (c1 : cnt < 4611686018427387904) :
    Calls Tryz.prog 28 #[.pointer (some ⟨m, 0, none⟩), .int .u64 h, .int .i64 f] w fun e w' => e = .returned (.int .u64 (acV cs 1 (clV' c (ixV h) f) (plainV h) 0 0).o) ∧ Mm w' m p r c (clV cs 1 (clV' c (ixV h) f) 0 0) (cnt + 1) (acV cs 1 (clV' c (ixV h) f) (plainV h) 0 0) ∧ Kept [p, r] w w' := by
  obtain ⟨X, hX⟩ : ∃ X, (clV' c (ixV h) f) = X := ⟨_, rfl⟩
  obtain ⟨V, hV⟩ : ∃ V, plainV h = V := ⟨_, rfl⟩
  have NA : Hid (∀ W' : World, Kept [] w W' → Calls Tryz.prog 56 #[.agg #[.int .i64 c.t, .int .i64 c.s, .int .i64 c.c, .int .i64 c.h, .int .i64 c.k, .int .i64 c.e, .int .i64 c.l], .int .u64 h, .int .i64 f] W' fun e w' => e = .returned (.int .i64 X) ∧ Kept [] w w') := fun W' k => hX ▸ (named_any c h f W' (hT.kept k) h0 h1).mono fun _ _ hh => ⟨hh.1, k.trans hh.2⟩
  have PL : Hid (∀ W' : World, Kept [] w W' → Calls Tryz.prog 22 #[.int .u64 h] W' fun e w' => e = .returned (.int .u64 V) ∧ Kept [] w w') := fun W' k => hV ▸ (plain_any h W' (hT.kept k) h0 h1).mono fun _ _ hh => ⟨hh.1, k.trans hh.2⟩
  rw [hV]
  rw [hX]
  clear hX hV
  have BL : Hid (∀ W' : World, Kept [] w W' → Calls Tryz.prog 57 #[.pointer (some ⟨p, 0, none⟩), .int .i64 X, .int .u64 V] W' fun e w' => e = .returned (.int .u64 (acV cs 1 X V 0 0).o) ∧ Bk w' p r (clV cs 1 X 0 0) (cnt + 1) (acV cs 1 X V 0 0) ∧ Kept [p, r] w w') :=
    fun W' k => (load_any p r cs cnt a X V W' (hM.bk.kept k (by simp) (by simp)) c0 c1).mono fun _ _ hh => ⟨hh.1, hh.2.1, (k.weaken (m := [p, r]) (by simp)).trans hh.2.2⟩
  have HS : Hid (∀ W' : World, Kept [p, r] w W' → W'.cell? ⟨m, 0, none⟩ = some (.int .i64 c.t) ∧ W'.cell? ⟨m, 1, none⟩ = some (.int .i64 c.s) ∧ W'.cell? ⟨m, 2, none⟩ = some (.int .i64 c.c) ∧ W'.cell? ⟨m, 3, none⟩ = some (.int .i64 c.h) ∧ W'.cell? ⟨m, 4, none⟩ = some (.int .i64 c.k) ∧ W'.cell? ⟨m, 5, none⟩ = some (.int .i64 c.e) ∧ W'.cell? ⟨m, 6, none⟩ = some (.int .i64 c.l) ∧ W'.cell? ⟨m, 7, none⟩ = some (.pointer (some ⟨p, 0, none⟩))) := by
    intro W' k
    have z := k.blk hM.st (by simp [hM.mp, hM.mr])
    exact ⟨cell_of_blk z (i := 0) rfl, cell_of_blk z (i := 1) rfl, cell_of_blk z (i := 2) rfl, cell_of_blk z (i := 3) rfl, cell_of_blk z (i := 4) rfl, cell_of_blk z (i := 5) rfl, cell_of_blk z (i := 6) rfl, cell_of_blk z (i := 7) rfl⟩
  have HM : Hid _ := hM
  clear hM
  generalize (acV cs 1 X V 0 0) = A at *
  generalize clV cs 1 X 0 0 = C at *
  go_enter Tryz.func28, Tryz.ntmps28
  go_wp2_with fail
  go_region_held3 (fun W' => W'.cell? ⟨m, 0, none⟩ = some (.int .i64 c.t) ∧ W'.cell? ⟨m, 1, none⟩ = some (.int .i64 c.s) ∧ W'.cell? ⟨m, 2, none⟩ = some (.int .i64 c.c) ∧ W'.cell? ⟨m, 3, none⟩ = some (.int .i64 c.h) ∧ W'.cell? ⟨m, 4, none⟩ = some (.int .i64 c.k) ∧ W'.cell? ⟨m, 5, none⟩ = some (.int .i64 c.e) ∧ W'.cell? ⟨m, 6, none⟩ = some (.int .i64 c.l) ∧ W'.cell? ⟨m, 7, none⟩ = some (.pointer (some ⟨p, 0, none⟩)))
    (first | exact HS.out _ (by assumption) | exact HS.out _ (Kept.weaken (m := [p, r]) (by assumption) (by simp)) | exact HS.out _ (Kept.refl _ _).drew | exact HS.out _ (Kept.refl _ _))
    (first
      | (go_at_call 56; refine (NA.out _ (by first | assumption | exact (Kept.refl _ _).drew)).mono ?_; rintro e w5 ⟨rfl, K5⟩)
      | (go_at_call 22; refine (PL.out _ (by first | assumption | exact (Kept.refl _ _).drew)).mono ?_; rintro e w6 ⟨rfl, K6⟩)
      | (go_at_call 57; refine (BL.out _ (by assumption)).mono ?_; rintro e w7 ⟨rfl, B7, K7⟩))
  all_goals
    go_wp2
    go_ret
    exact ⟨rfl, HM.out.step K7 B7, K7⟩
set_option maxRecDepth 100000 in
set_option maxHeartbeats 2000000 in
theorem mstore_any (m p r : Nat) (c : Cfg) (cs : List Int) (cnt : Int) (a : Acc) (h f v : Int) (w : World) (hM : Mm w m p r c cs cnt a) (hT : Tab w) (h0 : 0 ≤ h) (h1 : h < 18446744073709551616) (c0 : 0 ≤ cnt) (c1 : cnt < 4611686018427387904) :
    Calls Tryz.prog 26 #[.pointer (some ⟨m, 0, none⟩), .int .u64 h, .int .i64 f, .int .u64 v] w fun e w' => e = .returned (.tuple #[]) ∧ Mm w' m p r c (clV cs 2 (clV' c (ixV h) f) 0 v) (cnt + 1) (acV cs 2 (clV' c (ixV h) f) (plainV h) 0 v) ∧ Kept [p, r] w w' := by
  obtain ⟨X, hX⟩ : ∃ X, (clV' c (ixV h) f) = X := ⟨_, rfl⟩
  obtain ⟨V, hV⟩ : ∃ V, plainV h = V := ⟨_, rfl⟩
  have NA : Hid (∀ W' : World, Kept [] w W' → Calls Tryz.prog 56 #[.agg #[.int .i64 c.t, .int .i64 c.s, .int .i64 c.c, .int .i64 c.h, .int .i64 c.k, .int .i64 c.e, .int .i64 c.l], .int .u64 h, .int .i64 f] W' fun e w' => e = .returned (.int .i64 X) ∧ Kept [] w w') := fun W' k => hX ▸ (named_any c h f W' (hT.kept k) h0 h1).mono fun _ _ hh => ⟨hh.1, k.trans hh.2⟩
  have PL : Hid (∀ W' : World, Kept [] w W' → Calls Tryz.prog 22 #[.int .u64 h] W' fun e w' => e = .returned (.int .u64 V) ∧ Kept [] w w') := fun W' k => hV ▸ (plain_any h W' (hT.kept k) h0 h1).mono fun _ _ hh => ⟨hh.1, k.trans hh.2⟩
  rw [hV]
  rw [hX]
  clear hX hV
  have BL : Hid (∀ W' : World, Kept [] w W' → Calls Tryz.prog 31 #[.pointer (some ⟨p, 0, none⟩), .int .i64 X, .int .u64 V, .int .u64 v] W' fun e w' => e = .returned (.tuple #[]) ∧ Bk w' p r (clV cs 2 X 0 v) (cnt + 1) (acV cs 2 X V 0 v) ∧ Kept [p, r] w w') :=
    fun W' k => (store_any p r cs cnt a X V v W' (hM.bk.kept k (by simp) (by simp)) c0 c1).mono fun _ _ hh => ⟨hh.1, hh.2.1, (k.weaken (m := [p, r]) (by simp)).trans hh.2.2⟩
  have HS : Hid (∀ W' : World, Kept [p, r] w W' → W'.cell? ⟨m, 0, none⟩ = some (.int .i64 c.t) ∧ W'.cell? ⟨m, 1, none⟩ = some (.int .i64 c.s) ∧ W'.cell? ⟨m, 2, none⟩ = some (.int .i64 c.c) ∧ W'.cell? ⟨m, 3, none⟩ = some (.int .i64 c.h) ∧ W'.cell? ⟨m, 4, none⟩ = some (.int .i64 c.k) ∧ W'.cell? ⟨m, 5, none⟩ = some (.int .i64 c.e) ∧ W'.cell? ⟨m, 6, none⟩ = some (.int .i64 c.l) ∧ W'.cell? ⟨m, 7, none⟩ = some (.pointer (some ⟨p, 0, none⟩))) := by
    intro W' k
    have z := k.blk hM.st (by simp [hM.mp, hM.mr])
    exact ⟨cell_of_blk z (i := 0) rfl, cell_of_blk z (i := 1) rfl, cell_of_blk z (i := 2) rfl, cell_of_blk z (i := 3) rfl, cell_of_blk z (i := 4) rfl, cell_of_blk z (i := 5) rfl, cell_of_blk z (i := 6) rfl, cell_of_blk z (i := 7) rfl⟩
  have HM : Hid _ := hM
  clear hM
  generalize (acV cs 2 X V 0 v) = A at *
  generalize clV cs 2 X 0 v = C at *
  go_enter Tryz.func26, Tryz.ntmps26
  go_wp2_with fail
  go_region_held3 (fun W' => W'.cell? ⟨m, 0, none⟩ = some (.int .i64 c.t) ∧ W'.cell? ⟨m, 1, none⟩ = some (.int .i64 c.s) ∧ W'.cell? ⟨m, 2, none⟩ = some (.int .i64 c.c) ∧ W'.cell? ⟨m, 3, none⟩ = some (.int .i64 c.h) ∧ W'.cell? ⟨m, 4, none⟩ = some (.int .i64 c.k) ∧ W'.cell? ⟨m, 5, none⟩ = some (.int .i64 c.e) ∧ W'.cell? ⟨m, 6, none⟩ = some (.int .i64 c.l) ∧ W'.cell? ⟨m, 7, none⟩ = some (.pointer (some ⟨p, 0, none⟩)))
    (first | exact HS.out _ (by assumption) | exact HS.out _ (Kept.weaken (m := [p, r]) (by assumption) (by simp)) | exact HS.out _ (Kept.refl _ _).drew | exact HS.out _ (Kept.refl _ _))
    (first
      | (go_at_call 56; refine (NA.out _ (by first | assumption | exact (Kept.refl _ _).drew)).mono ?_; rintro e w5 ⟨rfl, K5⟩)
      | (go_at_call 22; refine (PL.out _ (by first | assumption | exact (Kept.refl _ _).drew)).mono ?_; rintro e w6 ⟨rfl, K6⟩)
      | (go_at_call 31; refine (BL.out _ (by assumption)).mono ?_; rintro e w7 ⟨rfl, B7, K7⟩))
  all_goals
    go_wp2
    go_end0
    exact ⟨rfl, HM.out.step K7 B7, K7⟩
set_option maxRecDepth 100000 in
set_option maxHeartbeats 2000000 in
theorem mswap_any (m p r : Nat) (c : Cfg) (cs : List Int) (cnt : Int) (a : Acc) (h f old v : Int) (w : World) (hM : Mm w m p r c cs cnt a) (hT : Tab w) (h0 : 0 ≤ h) (h1 : h < 18446744073709551616) (c0 : 0 ≤ cnt) (c1 : cnt < 4611686018427387904) :
    Calls Tryz.prog 115 #[.pointer (some ⟨m, 0, none⟩), .int .u64 h, .int .i64 f, .int .u64 old, .int .u64 v] w fun e w' => e = .returned (.bool (acV cs 3 (clV' c (ixV h) f) (plainV h) old v).d) ∧ Mm w' m p r c (clV cs 3 (clV' c (ixV h) f) old v) (cnt + 1) (acV cs 3 (clV' c (ixV h) f) (plainV h) old v) ∧ Kept [p, r] w w' := by
  obtain ⟨X, hX⟩ : ∃ X, (clV' c (ixV h) f) = X := ⟨_, rfl⟩
  obtain ⟨V, hV⟩ : ∃ V, plainV h = V := ⟨_, rfl⟩
  have NA : Hid (∀ W' : World, Kept [] w W' → Calls Tryz.prog 56 #[.agg #[.int .i64 c.t, .int .i64 c.s, .int .i64 c.c, .int .i64 c.h, .int .i64 c.k, .int .i64 c.e, .int .i64 c.l], .int .u64 h, .int .i64 f] W' fun e w' => e = .returned (.int .i64 X) ∧ Kept [] w w') := fun W' k => hX ▸ (named_any c h f W' (hT.kept k) h0 h1).mono fun _ _ hh => ⟨hh.1, k.trans hh.2⟩
  have PL : Hid (∀ W' : World, Kept [] w W' → Calls Tryz.prog 22 #[.int .u64 h] W' fun e w' => e = .returned (.int .u64 V) ∧ Kept [] w w') := fun W' k => hV ▸ (plain_any h W' (hT.kept k) h0 h1).mono fun _ _ hh => ⟨hh.1, k.trans hh.2⟩
  rw [hV]
  rw [hX]
  clear hX hV
  have BL : Hid (∀ W' : World, Kept [] w W' → Calls Tryz.prog 119 #[.pointer (some ⟨p, 0, none⟩), .int .i64 X, .int .u64 V, .int .u64 old, .int .u64 v] W' fun e w' => e = .returned (.bool (acV cs 3 X V old v).d) ∧ Bk w' p r (clV cs 3 X old v) (cnt + 1) (acV cs 3 X V old v) ∧ Kept [p, r] w w') :=
    fun W' k => (swap_any p r cs cnt a X V old v W' (hM.bk.kept k (by simp) (by simp)) c0 c1).mono fun _ _ hh => ⟨hh.1, hh.2.1, (k.weaken (m := [p, r]) (by simp)).trans hh.2.2⟩
  have HS : Hid (∀ W' : World, Kept [p, r] w W' → W'.cell? ⟨m, 0, none⟩ = some (.int .i64 c.t) ∧ W'.cell? ⟨m, 1, none⟩ = some (.int .i64 c.s) ∧ W'.cell? ⟨m, 2, none⟩ = some (.int .i64 c.c) ∧ W'.cell? ⟨m, 3, none⟩ = some (.int .i64 c.h) ∧ W'.cell? ⟨m, 4, none⟩ = some (.int .i64 c.k) ∧ W'.cell? ⟨m, 5, none⟩ = some (.int .i64 c.e) ∧ W'.cell? ⟨m, 6, none⟩ = some (.int .i64 c.l) ∧ W'.cell? ⟨m, 7, none⟩ = some (.pointer (some ⟨p, 0, none⟩))) := by
    intro W' k
    have z := k.blk hM.st (by simp [hM.mp, hM.mr])
    exact ⟨cell_of_blk z (i := 0) rfl, cell_of_blk z (i := 1) rfl, cell_of_blk z (i := 2) rfl, cell_of_blk z (i := 3) rfl, cell_of_blk z (i := 4) rfl, cell_of_blk z (i := 5) rfl, cell_of_blk z (i := 6) rfl, cell_of_blk z (i := 7) rfl⟩
  have HM : Hid _ := hM
  clear hM
  generalize (acV cs 3 X V old v) = A at *
  generalize clV cs 3 X old v = C at *
  go_enter Tryz.func115, Tryz.ntmps115
  go_wp2_with fail
  go_region_held3 (fun W' => W'.cell? ⟨m, 0, none⟩ = some (.int .i64 c.t) ∧ W'.cell? ⟨m, 1, none⟩ = some (.int .i64 c.s) ∧ W'.cell? ⟨m, 2, none⟩ = some (.int .i64 c.c) ∧ W'.cell? ⟨m, 3, none⟩ = some (.int .i64 c.h) ∧ W'.cell? ⟨m, 4, none⟩ = some (.int .i64 c.k) ∧ W'.cell? ⟨m, 5, none⟩ = some (.int .i64 c.e) ∧ W'.cell? ⟨m, 6, none⟩ = some (.int .i64 c.l) ∧ W'.cell? ⟨m, 7, none⟩ = some (.pointer (some ⟨p, 0, none⟩)))
    (first | exact HS.out _ (by assumption) | exact HS.out _ (Kept.weaken (m := [p, r]) (by assumption) (by simp)) | exact HS.out _ (Kept.refl _ _).drew | exact HS.out _ (Kept.refl _ _))
    (first
      | (go_at_call 56; refine (NA.out _ (by first | assumption | exact (Kept.refl _ _).drew)).mono ?_; rintro e w5 ⟨rfl, K5⟩)
      | (go_at_call 22; refine (PL.out _ (by first | assumption | exact (Kept.refl _ _).drew)).mono ?_; rintro e w6 ⟨rfl, K6⟩)
      | (go_at_call 119; refine (BL.out _ (by assumption)).mono ?_; rintro e w7 ⟨rfl, B7, K7⟩))
  all_goals
    go_wp2
    go_ret
    exact ⟨rfl, HM.out.step K7 B7, K7⟩
set_option maxRecDepth 100000 in
set_option maxHeartbeats 2000000 in
theorem madd_any (m p r : Nat) (c : Cfg) (cs : List Int) (cnt : Int) (a : Acc) (h f v : Int) (w : World) (hM : Mm w m p r c cs cnt a) (hT : Tab w) (h0 : 0 ≤ h) (h1 : h < 18446744073709551616) (c0 : 0 ≤ cnt) (c1 : cnt < 4611686018427387904) :
    Calls Tryz.prog 48 #[.pointer (some ⟨m, 0, none⟩), .int .u64 h, .int .i64 f, .int .u64 v] w fun e w' => e = .returned (.int .u64 (acV cs 4 (clV' c (ixV h) f) (plainV h) 0 v).o) ∧ Mm w' m p r c (clV cs 4 (clV' c (ixV h) f) 0 v) (cnt + 1) (acV cs 4 (clV' c (ixV h) f) (plainV h) 0 v) ∧ Kept [p, r] w w' := by
  obtain ⟨X, hX⟩ : ∃ X, (clV' c (ixV h) f) = X := ⟨_, rfl⟩
  obtain ⟨V, hV⟩ : ∃ V, plainV h = V := ⟨_, rfl⟩
  have NA : Hid (∀ W' : World, Kept [] w W' → Calls Tryz.prog 56 #[.agg #[.int .i64 c.t, .int .i64 c.s, .int .i64 c.c, .int .i64 c.h, .int .i64 c.k, .int .i64 c.e, .int .i64 c.l], .int .u64 h, .int .i64 f] W' fun e w' => e = .returned (.int .i64 X) ∧ Kept [] w w') := fun W' k => hX ▸ (named_any c h f W' (hT.kept k) h0 h1).mono fun _ _ hh => ⟨hh.1, k.trans hh.2⟩
  have PL : Hid (∀ W' : World, Kept [] w W' → Calls Tryz.prog 22 #[.int .u64 h] W' fun e w' => e = .returned (.int .u64 V) ∧ Kept [] w w') := fun W' k => hV ▸ (plain_any h W' (hT.kept k) h0 h1).mono fun _ _ hh => ⟨hh.1, k.trans hh.2⟩
  rw [hV]
  rw [hX]
  clear hX hV
  have BL : Hid (∀ W' : World, Kept [] w W' → Calls Tryz.prog 79 #[.pointer (some ⟨p, 0, none⟩), .int .i64 X, .int .u64 V, .int .u64 v] W' fun e w' => e = .returned (.int .u64 (acV cs 4 X V 0 v).o) ∧ Bk w' p r (clV cs 4 X 0 v) (cnt + 1) (acV cs 4 X V 0 v) ∧ Kept [p, r] w w') :=
    fun W' k => (add_any p r cs cnt a X V v W' (hM.bk.kept k (by simp) (by simp)) c0 c1).mono fun _ _ hh => ⟨hh.1, hh.2.1, (k.weaken (m := [p, r]) (by simp)).trans hh.2.2⟩
  have HS : Hid (∀ W' : World, Kept [p, r] w W' → W'.cell? ⟨m, 0, none⟩ = some (.int .i64 c.t) ∧ W'.cell? ⟨m, 1, none⟩ = some (.int .i64 c.s) ∧ W'.cell? ⟨m, 2, none⟩ = some (.int .i64 c.c) ∧ W'.cell? ⟨m, 3, none⟩ = some (.int .i64 c.h) ∧ W'.cell? ⟨m, 4, none⟩ = some (.int .i64 c.k) ∧ W'.cell? ⟨m, 5, none⟩ = some (.int .i64 c.e) ∧ W'.cell? ⟨m, 6, none⟩ = some (.int .i64 c.l) ∧ W'.cell? ⟨m, 7, none⟩ = some (.pointer (some ⟨p, 0, none⟩))) := by
    intro W' k
    have z := k.blk hM.st (by simp [hM.mp, hM.mr])
    exact ⟨cell_of_blk z (i := 0) rfl, cell_of_blk z (i := 1) rfl, cell_of_blk z (i := 2) rfl, cell_of_blk z (i := 3) rfl, cell_of_blk z (i := 4) rfl, cell_of_blk z (i := 5) rfl, cell_of_blk z (i := 6) rfl, cell_of_blk z (i := 7) rfl⟩
  have HM : Hid _ := hM
  clear hM
  generalize (acV cs 4 X V 0 v) = A at *
  generalize clV cs 4 X 0 v = C at *
  go_enter Tryz.func48, Tryz.ntmps48
  go_wp2_with fail
  go_region_held3 (fun W' => W'.cell? ⟨m, 0, none⟩ = some (.int .i64 c.t) ∧ W'.cell? ⟨m, 1, none⟩ = some (.int .i64 c.s) ∧ W'.cell? ⟨m, 2, none⟩ = some (.int .i64 c.c) ∧ W'.cell? ⟨m, 3, none⟩ = some (.int .i64 c.h) ∧ W'.cell? ⟨m, 4, none⟩ = some (.int .i64 c.k) ∧ W'.cell? ⟨m, 5, none⟩ = some (.int .i64 c.e) ∧ W'.cell? ⟨m, 6, none⟩ = some (.int .i64 c.l) ∧ W'.cell? ⟨m, 7, none⟩ = some (.pointer (some ⟨p, 0, none⟩)))
    (first | exact HS.out _ (by assumption) | exact HS.out _ (Kept.weaken (m := [p, r]) (by assumption) (by simp)) | exact HS.out _ (Kept.refl _ _).drew | exact HS.out _ (Kept.refl _ _))
    (first
      | (go_at_call 56; refine (NA.out _ (by first | assumption | exact (Kept.refl _ _).drew)).mono ?_; rintro e w5 ⟨rfl, K5⟩)
      | (go_at_call 22; refine (PL.out _ (by first | assumption | exact (Kept.refl _ _).drew)).mono ?_; rintro e w6 ⟨rfl, K6⟩)
      | (go_at_call 79; refine (BL.out _ (by assumption)).mono ?_; rintro e w7 ⟨rfl, B7, K7⟩))
  all_goals
    go_wp2
    go_ret
    exact ⟨rfl, HM.out.step K7 B7, K7⟩
set_option maxRecDepth 100000 in
set_option maxHeartbeats 2000000 in
theorem mclock_any (m p r : Nat) (c : Cfg) (cs : List Int) (cnt : Int) (a : Acc) (w : World) (hM : Mm w m p r c cs cnt a) (c0 : 0 ≤ cnt) (c1 : cnt < 4611686018427387904) :
    Calls Tryz.prog 107 #[.pointer (some ⟨m, 0, none⟩)] w fun e w' => e = .returned (.int .u64 (acV cs 1 0 0 0 0).o) ∧ Mm w' m p r c (clV cs 1 0 0 0) (cnt + 1) (acV cs 1 0 0 0 0) ∧ Kept [p, r] w w' := by
  have NA : Hid (∀ W' : World, Kept [] w W' → Calls Tryz.prog 113 #[.agg #[.int .i64 c.t, .int .i64 c.s, .int .i64 c.c, .int .i64 c.h, .int .i64 c.k, .int .i64 c.e, .int .i64 c.l]] W' fun e w' => e = .returned (.int .i64 0) ∧ Kept [] w w') := fun W' k => (clock_any c W').mono fun _ _ hh => ⟨hh.1, k.trans hh.2⟩
  have BL : Hid (∀ W' : World, Kept [] w W' → Calls Tryz.prog 57 #[.pointer (some ⟨p, 0, none⟩), .int .i64 0, .int .u64 0] W' fun e w' => e = .returned (.int .u64 (acV cs 1 0 0 0 0).o) ∧ Bk w' p r (clV cs 1 0 0 0) (cnt + 1) (acV cs 1 0 0 0 0) ∧ Kept [p, r] w w') :=
    fun W' k => (load_any p r cs cnt a 0 0 W' (hM.bk.kept k (by simp) (by simp)) c0 c1).mono fun _ _ hh => ⟨hh.1, hh.2.1, (k.weaken (m := [p, r]) (by simp)).trans hh.2.2⟩
  have HS : Hid (∀ W' : World, Kept [p, r] w W' → W'.cell? ⟨m, 0, none⟩ = some (.int .i64 c.t) ∧ W'.cell? ⟨m, 1, none⟩ = some (.int .i64 c.s) ∧ W'.cell? ⟨m, 2, none⟩ = some (.int .i64 c.c) ∧ W'.cell? ⟨m, 3, none⟩ = some (.int .i64 c.h) ∧ W'.cell? ⟨m, 4, none⟩ = some (.int .i64 c.k) ∧ W'.cell? ⟨m, 5, none⟩ = some (.int .i64 c.e) ∧ W'.cell? ⟨m, 6, none⟩ = some (.int .i64 c.l) ∧ W'.cell? ⟨m, 7, none⟩ = some (.pointer (some ⟨p, 0, none⟩))) := by
    intro W' k
    have z := k.blk hM.st (by simp [hM.mp, hM.mr])
    exact ⟨cell_of_blk z (i := 0) rfl, cell_of_blk z (i := 1) rfl, cell_of_blk z (i := 2) rfl, cell_of_blk z (i := 3) rfl, cell_of_blk z (i := 4) rfl, cell_of_blk z (i := 5) rfl, cell_of_blk z (i := 6) rfl, cell_of_blk z (i := 7) rfl⟩
  have HM : Hid _ := hM
  clear hM
  generalize (acV cs 1 0 0 0 0) = A at *
  generalize clV cs 1 0 0 0 = C at *
  go_enter Tryz.func107, Tryz.ntmps107
  go_wp2_with fail
  go_region_held3 (fun W' => W'.cell? ⟨m, 0, none⟩ = some (.int .i64 c.t) ∧ W'.cell? ⟨m, 1, none⟩ = some (.int .i64 c.s) ∧ W'.cell? ⟨m, 2, none⟩ = some (.int .i64 c.c) ∧ W'.cell? ⟨m, 3, none⟩ = some (.int .i64 c.h) ∧ W'.cell? ⟨m, 4, none⟩ = some (.int .i64 c.k) ∧ W'.cell? ⟨m, 5, none⟩ = some (.int .i64 c.e) ∧ W'.cell? ⟨m, 6, none⟩ = some (.int .i64 c.l) ∧ W'.cell? ⟨m, 7, none⟩ = some (.pointer (some ⟨p, 0, none⟩)))
    (first | exact HS.out _ (by assumption) | exact HS.out _ (Kept.weaken (m := [p, r]) (by assumption) (by simp)) | exact HS.out _ (Kept.refl _ _).drew | exact HS.out _ (Kept.refl _ _))
    (first
      | (go_at_call 113; refine (NA.out _ (by first | assumption | exact (Kept.refl _ _).drew)).mono ?_; rintro e w5 ⟨rfl, K5⟩)
      | (go_at_call 57; refine (BL.out _ (by assumption)).mono ?_; rintro e w7 ⟨rfl, B7, K7⟩))
  all_goals
    go_wp2
    go_ret
    exact ⟨rfl, HM.out.step K7 B7, K7⟩
set_option maxRecDepth 100000 in
set_option maxHeartbeats 2000000 in
theorem mreserve_any (m p r : Nat) (c : Cfg) (cs : List Int) (cnt : Int) (a : Acc) (x y v : Int) (w : World) (hM : Mm w m p r c cs cnt a) (c0 : 0 ≤ cnt) (c1 : cnt < 4611686018427387904) :
    Calls Tryz.prog 117 #[.pointer (some ⟨m, 0, none⟩), .int .i64 x, .int .i64 y, .int .u64 v] w fun e w' => e = .returned (.tuple #[]) ∧ Mm w' m p r c (clV cs 2 (rsV c x y) 0 v) (cnt + 1) (acV cs 2 (rsV c x y) 0 0 v) ∧ Kept [p, r] w w' := by
  obtain ⟨X, hX⟩ : ∃ X, (rsV c x y) = X := ⟨_, rfl⟩
  have NA : Hid (∀ W' : World, Kept [] w W' → Calls Tryz.prog 120 #[.agg #[.int .i64 c.t, .int .i64 c.s, .int .i64 c.c, .int .i64 c.h, .int .i64 c.k, .int .i64 c.e, .int .i64 c.l], .int .i64 x, .int .i64 y] W' fun e w' => e = .returned (.int .i64 X) ∧ Kept [] w w') := fun W' k => hX ▸ (reservation_any c x y W').mono fun _ _ hh => ⟨hh.1, k.trans hh.2⟩
  rw [hX]
  clear hX
  have BL : Hid (∀ W' : World, Kept [] w W' → Calls Tryz.prog 31 #[.pointer (some ⟨p, 0, none⟩), .int .i64 X, .int .u64 0, .int .u64 v] W' fun e w' => e = .returned (.tuple #[]) ∧ Bk w' p r (clV cs 2 X 0 v) (cnt + 1) (acV cs 2 X 0 0 v) ∧ Kept [p, r] w w') :=
    fun W' k => (store_any p r cs cnt a X 0 v W' (hM.bk.kept k (by simp) (by simp)) c0 c1).mono fun _ _ hh => ⟨hh.1, hh.2.1, (k.weaken (m := [p, r]) (by simp)).trans hh.2.2⟩
  have HS : Hid (∀ W' : World, Kept [p, r] w W' → W'.cell? ⟨m, 0, none⟩ = some (.int .i64 c.t) ∧ W'.cell? ⟨m, 1, none⟩ = some (.int .i64 c.s) ∧ W'.cell? ⟨m, 2, none⟩ = some (.int .i64 c.c) ∧ W'.cell? ⟨m, 3, none⟩ = some (.int .i64 c.h) ∧ W'.cell? ⟨m, 4, none⟩ = some (.int .i64 c.k) ∧ W'.cell? ⟨m, 5, none⟩ = some (.int .i64 c.e) ∧ W'.cell? ⟨m, 6, none⟩ = some (.int .i64 c.l) ∧ W'.cell? ⟨m, 7, none⟩ = some (.pointer (some ⟨p, 0, none⟩))) := by
    intro W' k
    have z := k.blk hM.st (by simp [hM.mp, hM.mr])
    exact ⟨cell_of_blk z (i := 0) rfl, cell_of_blk z (i := 1) rfl, cell_of_blk z (i := 2) rfl, cell_of_blk z (i := 3) rfl, cell_of_blk z (i := 4) rfl, cell_of_blk z (i := 5) rfl, cell_of_blk z (i := 6) rfl, cell_of_blk z (i := 7) rfl⟩
  have HM : Hid _ := hM
  clear hM
  generalize (acV cs 2 X 0 0 v) = A at *
  generalize clV cs 2 X 0 v = C at *
  go_enter Tryz.func117, Tryz.ntmps117
  go_wp2_with fail
  go_region_held3 (fun W' => W'.cell? ⟨m, 0, none⟩ = some (.int .i64 c.t) ∧ W'.cell? ⟨m, 1, none⟩ = some (.int .i64 c.s) ∧ W'.cell? ⟨m, 2, none⟩ = some (.int .i64 c.c) ∧ W'.cell? ⟨m, 3, none⟩ = some (.int .i64 c.h) ∧ W'.cell? ⟨m, 4, none⟩ = some (.int .i64 c.k) ∧ W'.cell? ⟨m, 5, none⟩ = some (.int .i64 c.e) ∧ W'.cell? ⟨m, 6, none⟩ = some (.int .i64 c.l) ∧ W'.cell? ⟨m, 7, none⟩ = some (.pointer (some ⟨p, 0, none⟩)))
    (first | exact HS.out _ (by assumption) | exact HS.out _ (Kept.weaken (m := [p, r]) (by assumption) (by simp)) | exact HS.out _ (Kept.refl _ _).drew | exact HS.out _ (Kept.refl _ _))
    (first
      | (go_at_call 120; refine (NA.out _ (by first | assumption | exact (Kept.refl _ _).drew)).mono ?_; rintro e w5 ⟨rfl, K5⟩)
      | (go_at_call 31; refine (BL.out _ (by assumption)).mono ?_; rintro e w7 ⟨rfl, B7, K7⟩))
  all_goals
    go_wp2
    go_end0
    exact ⟨rfl, HM.out.step K7 B7, K7⟩
end Go.Proofs.YtgafmklfpiipcaaGreatDoor
