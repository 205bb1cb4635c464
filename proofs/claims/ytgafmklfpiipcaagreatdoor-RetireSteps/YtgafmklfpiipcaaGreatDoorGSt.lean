/-
  The contracts of package guard: a guard's block, and what its calls make of it.
-/
import Derived.Test.YtgafmklfpiipcaaGreatDoorKBase
namespace Go.Proofs.YtgafmklfpiipcaaGreatDoor
open Go.RowKit (Grown Hid Below)
open Go.Deep
namespace K
set_option maxRecDepth 100000
/-- A guard: how many reservations it used, its latest era, its thread. -/
structure Gs where
  u : Int
  l : Int
  t : Int
def GB (w : World) (b : Nat) (g : Gs) : Prop := w.heap[b]? = some (.cells #[.int .i64 g.u, .int .u64 g.l, .int .i64 g.t] 79 (0, 0))
theorem GB.kept {l : List Nat} {w w' : World} {b : Nat} {g : Gs} (h : GB w b g) (k : Kept l w w') (hb : b ∉ l) : GB w' b g := k.blk h hb
theorem GB.lt {w : World} {b : Nat} {g : Gs} (h : GB w b g) : b < w.heap.size := lt_of_blk h
theorem GB.nm {w : World} {b m p r : Nat} {g : Gs} {c : Cfg} {cs : List Int} {cnt : Int} {a : Acc} (h : GB w b g) (hM : Mm w m p r c cs cnt a) : ¬ b = m ∧ ¬ b = p ∧ ¬ b = r :=
  ⟨fun e => by have z := hM.st; unfold GB at h; rw [← e, h] at z; simp at z, fun e => by have z := hM.bk.st; unfold GB at h; rw [← e, h] at z; simp at z, fun e => by have z := hM.bk.row; unfold GB at h; unfold Row at z; rw [← e, h] at z; simp at z⟩
/-- The reservation that is used next; a guard behind a publish, and behind a clear. -/
def pubN (c : Cfg) (g : Gs) : Int := if g.u < c.s then g.u else 0
def pubG (c : Cfg) (g : Gs) (e : Int) : Gs := ⟨pubN c g + 1, e, g.t⟩
def clrG (c : Cfg) (g : Gs) (x : Int) : Gs := if x = c.s - 1 then ⟨0, 0, g.t⟩ else g
theorem fldslots (c : Cfg) (w : World) : (Instr.field 23 c.val 1).run Tryz.prog w = .ok (.int .i64 c.s) w := by kernel_rfl
theorem gnew_any (t : Int) (w : World) : Calls Tryz.prog 6 #[.int .i64 t] w fun e w' => ∃ b, e = .returned (.pointer (some ⟨b, 0, none⟩)) ∧ w.heap.size ≤ b ∧ GB w' b ⟨0, 0, t⟩ ∧ Kept [] w w' := by
  go_enter Tryz.func6, Tryz.ntmps6
  go_wp2
  go_ret
  exact ⟨w.heap.size, rfl, Nat.le_refl _, blk_alloc_new _ _, (Kept.refl _ _).alloc _⟩
theorem glatest_any (b : Nat) (g : Gs) (w : World) (h : GB w b g) : Calls Tryz.prog 109 #[.pointer (some ⟨b, 0, none⟩)] w fun e w' => e = .returned (.int .u64 g.l) ∧ w' = w := by
  have q1 := cell_of_blk h (i := 1) rfl
  go_enter Tryz.func109, Tryz.ntmps109
  go_wp2
  go_ret
  exact ⟨rfl, rfl⟩
theorem gnext_any (b : Nat) (g : Gs) (s : Int) (w : World) (h : GB w b g) : Calls Tryz.prog 116 #[.pointer (some ⟨b, 0, none⟩), .int .i64 s] w fun e w' => e = .returned (.tuple #[.int .i64 (if g.u < s then g.u else 0), .bool (decide (g.u < s))]) ∧ w' = w := by
  have q0 := cell_of_blk h (i := 0) rfl
  by_cases hu : g.u < s
  · rw [if_pos hu, decide_eq_true hu]
    go_enter Tryz.func116, Tryz.ntmps116
    go_wp2
    go_ret2
    exact ⟨rfl, rfl⟩
  · rw [if_neg hu, decide_eq_false hu]
    go_enter Tryz.func116, Tryz.ntmps116
    go_wp2
    go_ret2
    exact ⟨rfl, rfl⟩
theorem gnote_any (b : Nat) (g : Gs) (x e : Int) (w : World) (h : GB w b g) (h0 : 0 ≤ x) (h1 : x < 1000) : Calls Tryz.prog 118 #[.pointer (some ⟨b, 0, none⟩), .int .i64 x, .int .u64 e] w fun ee w' => ee = .returned (.tuple #[]) ∧ GB w' b ⟨x + 1, e, g.t⟩ ∧ Kept [b] w w' := by
  have q0 := cell_of_blk h (i := 0) rfl
  have q1 := cell_of_blk h (i := 1) rfl
  have hf := free_of_blk h
  have HB := hidOf h
  clear h
  go_enter Tryz.func118, Tryz.ntmps118
  go_wp2
  go_end0
  refine ⟨rfl, ?_, ((Kept.refl [b] w).setCell (Or.inl (by simp)) _).setCell (Or.inl (by simp)) _⟩
  have z := blk_set (blk_set HB.out 0 (.int .i64 (x + 1))) 1 (.int .u64 e)
  simpa [GB] using z
set_option maxHeartbeats 2000000 in
theorem gcheck_any (b m p r : Nat) (g : Gs) (c : Cfg) (cs : List Int) (cnt : Int) (a : Acc) (w : World) (hG : GB w b g) (hM : Mm w m p r c cs cnt a) (c0 : 0 ≤ cnt) (c1 : cnt < 4611686018427387904) :
    Calls Tryz.prog 104 #[.pointer (some ⟨b, 0, none⟩), .pointer (some ⟨m, 0, none⟩)] w fun e w' => e = .returned (.tuple #[.int .u64 (acV cs 1 0 0 0 0).o, .bool ((acV cs 1 0 0 0 0).o == g.l)]) ∧ Mm w' m p r c cs (cnt + 1) (acV cs 1 0 0 0 0) ∧ GB w' b g ∧ Kept [p, r] w w' := by
  obtain ⟨n1, n2, n3⟩ := hG.nm hM
  have CK := hidOf (mclock_any m p r c cs cnt a w hM c0 c1)
  rw [clV_load] at CK
  have HG := hidOf hG
  clear hG hM
  generalize acV cs 1 0 0 0 0 = A at *
  go_enter Tryz.func104, Tryz.ntmps104
  go_wp2_with fail
  refine CK.out.mono ?_
  rintro e w1 ⟨rfl, M1, K1⟩
  have G1 := HG.out.kept K1 (by simp; omega)
  have HX := hidOf (And.intro M1 (And.intro G1 K1))
  have LT := hidOf (glatest_any b g w1 G1)
  clear M1 G1 K1 HG CK
  go_wp2_with fail
  refine LT.out.mono ?_
  rintro e w2 ⟨rfl, rfl⟩
  go_wp2
  go_ret2
  exact ⟨rfl, HX.out⟩
set_option maxHeartbeats 2000000 in
theorem gpublish_any (b m p r : Nat) (g : Gs) (c : Cfg) (cs : List Int) (cnt : Int) (a : Acc) (e : Int) (w : World) (hG : GB w b g) (hM : Mm w m p r c cs cnt a) (u0 : 0 ≤ g.u) (u1 : g.u < 1000) (c0 : 0 ≤ cnt) (c1 : cnt < 4611686018427387904) :
    Calls Tryz.prog 112 #[.pointer (some ⟨b, 0, none⟩), .pointer (some ⟨m, 0, none⟩), .int .u64 e] w fun ee w' => ee = .returned (.bool (decide (g.u < c.s))) ∧ Mm w' m p r c (clV cs 2 (rsV c g.t (pubN c g)) 0 e) (cnt + 1) (acV cs 2 (rsV c g.t (pubN c g)) 0 0 e) ∧ GB w' b (pubG c g e) ∧ Kept [b, p, r] w w' := by
  obtain ⟨n1, n2, n3⟩ := hG.nm hM
  have F2 := fldslots c
  have x0 : 0 ≤ pubN c g ∧ pubN c g < 1000 := by unfold pubN; split <;> omega
  have CF : Hid (∀ W' : World, Kept [] w W' → Calls Tryz.prog 93 #[.agg #[.int .i64 c.t, .int .i64 c.s, .int .i64 c.c, .int .i64 c.h, .int .i64 c.k, .int .i64 c.e, .int .i64 c.l]] W' fun e w' => e = .returned c.val ∧ Kept [] w w') := fun W' k => (config_any c W').mono fun _ _ hh => ⟨hh.1, k.trans hh.2⟩
  have NX : Hid (∀ W' : World, Kept [] w W' → Calls Tryz.prog 116 #[.pointer (some ⟨b, 0, none⟩), .int .i64 c.s] W' fun e w' => e = .returned (.tuple #[.int .i64 (pubN c g), .bool (decide (g.u < c.s))]) ∧ Kept [] w w') := fun W' k => (gnext_any b g c.s W' (hG.kept k (by simp))).mono fun _ _ hh => ⟨hh.1, by rw [hh.2]; exact k⟩
  have HS : Hid (∀ W' : World, Kept [] w W' → W'.cell? ⟨m, 0, none⟩ = some (.int .i64 c.t) ∧ W'.cell? ⟨m, 1, none⟩ = some (.int .i64 c.s) ∧ W'.cell? ⟨m, 2, none⟩ = some (.int .i64 c.c) ∧ W'.cell? ⟨m, 3, none⟩ = some (.int .i64 c.h) ∧ W'.cell? ⟨m, 4, none⟩ = some (.int .i64 c.k) ∧ W'.cell? ⟨m, 5, none⟩ = some (.int .i64 c.e) ∧ W'.cell? ⟨m, 6, none⟩ = some (.int .i64 c.l)) := by
    intro W' k
    have z := k.blk hM.st (by simp)
    exact ⟨cell_of_blk z (i := 0) rfl, cell_of_blk z (i := 1) rfl, cell_of_blk z (i := 2) rfl, cell_of_blk z (i := 3) rfl, cell_of_blk z (i := 4) rfl, cell_of_blk z (i := 5) rfl, cell_of_blk z (i := 6) rfl⟩
  have E2 : pubG c g e = ⟨pubN c g + 1, e, g.t⟩ := rfl
  rw [E2]; clear E2
  have RV := hidOf (fun W (k : Kept [] w W) => mreserve_any m p r c cs cnt a g.t (pubN c g) e W (hM.new k) c0 c1)
  generalize acV cs 2 (rsV c g.t (pubN c g)) 0 0 e = A at *
  generalize clV cs 2 (rsV c g.t (pubN c g)) 0 e = C at *
  generalize decide (g.u < c.s) = D at *
  generalize pubN c g = X at *
  have HG := hidOf hG
  have HM := hidOf hM
  clear hG hM
  go_enter Tryz.func112, Tryz.ntmps112
  go_wp2_with fail
  go_region_held3 (fun W' => W'.cell? ⟨m, 0, none⟩ = some (.int .i64 c.t) ∧ W'.cell? ⟨m, 1, none⟩ = some (.int .i64 c.s) ∧ W'.cell? ⟨m, 2, none⟩ = some (.int .i64 c.c) ∧ W'.cell? ⟨m, 3, none⟩ = some (.int .i64 c.h) ∧ W'.cell? ⟨m, 4, none⟩ = some (.int .i64 c.k) ∧ W'.cell? ⟨m, 5, none⟩ = some (.int .i64 c.e) ∧ W'.cell? ⟨m, 6, none⟩ = some (.int .i64 c.l))
    (first | exact HS.out _ (by assumption) | exact HS.out _ (Kept.refl _ _).drew | exact HS.out _ (Kept.refl _ _))
    (first
      | (go_at_call 93; refine (CF.out _ (by first | assumption | exact (Kept.refl _ _).drew)).mono ?_; rintro e w5 ⟨rfl, K5⟩)
      | (go_at_call 116; refine (NX.out _ (by first | assumption | exact (Kept.refl _ _).drew)).mono ?_; rintro e w6 ⟨rfl, K6⟩))
  have Z := HG.out.kept K6 (by simp)
  have q2 := cell_of_blk Z (i := 2) rfl
  have HZ := hidOf Z
  have R2 := hidOf (RV.out w6 K6)
  clear Z CF NX HS
  go_wp2_with fail
  refine R2.out.mono ?_
  rintro e w7 ⟨rfl, M7, K7⟩
  have Z7 := HZ.out.kept K7 (by simp; omega)
  have NT := hidOf (gnote_any b g X e w7 Z7 x0.1 x0.2)
  have HX := hidOf (And.intro M7 (K6.trans (Kept.refl [] _)))
  have K8 : Kept [b, p, r] w w7 := (K6.weaken (m := [b, p, r]) (by simp)).then K7 (by simp)
  clear R2 RV q2 HZ K7 M7 K6
  go_wp2_with fail
  refine NT.out.mono ?_
  rintro e w8 ⟨rfl, Z8, K9⟩
  have M8 := HX.out.1.kept K9 (by simp; omega) (by simp; omega) (by simp; omega)
  have HY := hidOf (And.intro M8 (And.intro Z8 (K8.then K9 (by simp))))
  clear HX NT K8 K9 M8 Z8
  go_wp2
  go_ret
  exact ⟨rfl, HY.out⟩
end K
end Go.Proofs.YtgafmklfpiipcaaGreatDoor
