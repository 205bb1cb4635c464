/-
  The contracts of package help: a help's block, and what its calls make of it.
-/
import Derived.Test.YtjbdaejkofkcpaaDoorJMath
import Derived.Test.YtjbdaejkofkcpaaDoorMMem
import Derived.Test.YtjbdaejkofkcpaaDoorRw
import Derived.Deep.RegionHeld3
import Derived.Laws.EntriesVeiled
namespace Go.Proofs.YtjbdaejkofkcpaaDoor
open Go.RowKit (Grown Hid Below)
open Go.Deep
namespace K
set_option maxRecDepth 100000
theorem h_eqnil (w : World) : (binOp .eql 84 .nilFunc .nilFunc).run Tryd.prog w = .ok (.bool true) w := by kernel_rfl
theorem h_eqfun (w : World) (f : Fn) (x y : Array Value) : (binOp .eql 84 (.func f x y) .nilFunc).run Tryd.prog w = .ok (.bool false) w := by kernel_rfl
/-- A help's block. -/
def HBk (w : World) (b : Nat) (v : Value) (h lv sn : Int) : Prop := w.heap[b]? = some (.cells #[.int .u64 h, v, .int .i64 lv, .int .u64 sn] 86 (0, 0))
def hfV (f : Nat) : Value := .func (.func f) #[] #[]
def phH (n : Nat) : Value := if n = 0 then hfV 36 else if n = 1 then hfV 66 else if n = 2 then hfV 80 else .nilFunc
def HB (w : World) (b : Nat) (s : Hm) : Prop := HBk w b (phH s.ph) s.h s.lv s.sn
theorem HBk.kept {l : List Nat} {w w' : World} {b : Nat} {v : Value} {h lv sn : Int} (hB : HBk w b v h lv sn) (k : Kept l w w') (hb : b ∉ l) : HBk w' b v h lv sn := k.blk hB hb
theorem HBk.set1 {w : World} {b : Nat} {v : Value} {h lv sn : Int} (hB : HBk w b v h lv sn) (y : Value) : HBk (w.setCell ⟨b, 1, none⟩ y) b y h lv sn := by
  have z := blk_set hB 1 y
  simpa [HBk] using z
theorem HBk.set2 {w : World} {b : Nat} {v : Value} {h lv sn : Int} (hB : HBk w b v h lv sn) (y : Int) : HBk (w.setCell ⟨b, 2, none⟩ (.int .i64 y)) b v h y sn := by
  have z := blk_set hB 2 (.int .i64 y)
  simpa [HBk] using z
theorem HBk.set3 {w : World} {b : Nat} {v : Value} {h lv sn : Int} (hB : HBk w b v h lv sn) (y : Int) : HBk (w.setCell ⟨b, 3, none⟩ (.int .u64 y)) b v h lv y := by
  have z := blk_set hB 3 (.int .u64 y)
  simpa [HBk] using z
theorem HB.kept {l : List Nat} {w w' : World} {b : Nat} {s : Hm} (hB : HB w b s) (k : Kept l w w') (hb : b ∉ l) : HB w' b s := HBk.kept hB k hb
theorem HB.lt {w : World} {b : Nat} {s : Hm} (h : HB w b s) : b < w.heap.size := lt_of_blk h
theorem HBk.nm {w : World} {b m p r : Nat} {v : Value} {h lv sn : Int} {c : Cfg} {cs : List Int} {cnt : Int} {a : Acc} (hB : HBk w b v h lv sn) (hM : Mm w m p r c cs cnt a) : ¬ b = m ∧ ¬ b = p ∧ ¬ b = r := by
  unfold HBk at hB
  refine ⟨fun e => ?_, fun e => ?_, fun e => ?_⟩
  · have z := hM.st; rw [← e, hB] at z; simp at z
  · have z := hM.bk.st; rw [← e, hB] at z; simp at z
  · have z := hM.bk.row; unfold Row at z; rw [← e, hB] at z; simp at z
set_option maxHeartbeats 2000000 in
theorem hnew_any (h : Int) (w : World) : Calls Tryd.prog 10 #[.int .u64 h] w fun e w' => ∃ b, e = .returned (.pointer (some ⟨b, 0, none⟩)) ∧ w.heap.size ≤ b ∧ HB w' b ⟨h, 0, 0, 0⟩ ∧ Kept [] w w' := by
  go_enter Tryd.func10, Tryd.ntmps10
  go_wp2
  go_ret
  exact ⟨_, rfl, Nat.le_refl _, blk_alloc_new w _, (Kept.refl [] w).alloc _⟩
set_option maxHeartbeats 2000000 in
theorem hdone_any (b : Nat) (s : Hm) (w : World) (hB : HB w b s) (h3 : s.ph ≤ 3) :
    Calls Tryd.prog 16 #[.pointer (some ⟨b, 0, none⟩)] w fun e w' => e = .returned (.bool (decide (s.ph = 3))) ∧ w' = w := by
  have q1 := cell_of_blk hB (i := 1) rfl
  have E1 := h_eqfun
  have E2 := h_eqnil
  rcases (by omega : s.ph = 0 ∨ s.ph = 1 ∨ s.ph = 2 ∨ s.ph = 3) with e | e | e | e
  all_goals
    rw [e] at q1 ⊢
    clear e h3 hB
    simp only [phH, hfV] at q1
  all_goals
    go_enter Tryd.func16, Tryd.ntmps16
    go_wp2
    go_ret
    exact ⟨rfl, rfl⟩
set_option maxHeartbeats 2000000 in
theorem hfield_any (b : Nat) (v : Value) (h lv sn : Int) (w : World) (hB : HBk w b v h lv sn) (l0 : 0 ≤ lv) (l1 : lv ≤ 100) :
    Calls Tryd.prog 78 #[.pointer (some ⟨b, 0, none⟩)] w fun e w' => e = .returned (.int .i64 (6 + lv)) ∧ w' = w := by
  have q1 := cell_of_blk hB (i := 2) rfl
  go_enter Tryd.func78, Tryd.ntmps78
  go_wp2
  go_ret
  exact ⟨ret_i64 (by go_num), rfl⟩
set_option maxHeartbeats 2000000 in
theorem hend_any (b : Nat) (v : Value) (h lv sn : Int) (ph : Nat) (w : World) (hB : HBk w b v h lv sn) (l0 : 0 ≤ lv) (l1 : lv ≤ 100) :
    Calls Tryd.prog 79 #[.pointer (some ⟨b, 0, none⟩)] w fun e w' => e = .returned (.tuple #[]) ∧ HB w' b (Hm.mk h ph lv sn).down ∧ Kept [b] w w' := by
  have q1 := cell_of_blk hB (i := 1) rfl
  have q2 := cell_of_blk hB (i := 2) rfl
  have hf := free_of_blk hB
  have HH := hidOf hB
  clear hB
  by_cases hl : lv = 0
  · subst hl
    go_enter Tryd.func79, Tryd.ntmps79
    go_wp2
    refine bodyPost_ret (v := .tuple #[]) (by simp [results, Tryd.results79, go_sem]) rfl ⟨rfl, ?_, (Kept.refl [b] w).setCell (Or.inl (by simp)) _⟩
    have z := blk_set HH.out 1 .nilFunc
    simpa [HB, HBk, phH, Hm.down] using z
  · have hl1 : (lv == 0) = false := by simp [hl]
    have e : (Hm.mk h ph lv sn).down = ⟨h, 1, lv - 1, sn⟩ := if_neg hl
    rw [e]; clear e
    have hz := hidOf hl
    clear hl
    go_enter Tryd.func79, Tryd.ntmps79
    go_wp2
    go_end0
    refine ⟨rfl, ?_, ((Kept.refl [b] w).setCell (Or.inl (by simp)) _).setCell (Or.inl (by simp)) _⟩
    have z := blk_set (blk_set HH.out 2 (.int .i64 (lv - 1))) 1 (hfV 66)
    simpa [HB, HBk, phH, hfV] using z
theorem h_fldheight (c : Cfg) (w : World) : (Instr.field 23 c.val 3).run Tryd.prog w = .ok (.int .i64 c.h) w := by kernel_rfl
set_option maxHeartbeats 4000000 in
theorem htall_any (b m p r : Nat) (v : Value) (c : Cfg) (cs : List Int) (cnt : Int) (a : Acc) (h lv sn : Int) (w : World) (hB : HBk w b v h lv sn) (hM : Mm w m p r c cs cnt a) (hT : Tab w) (R : Rt c) (hw : Wds cs) (hh : isW h) (c0 : 0 ≤ cnt) (c1 : cnt < 4611686018427387904) :
    Calls Tryd.prog 36 #[.pointer (some ⟨b, 0, none⟩), .pointer (some ⟨m, 0, none⟩)] w fun e w' => e = .returned (.tuple #[]) ∧ HB w' b ⟨h, 1, tlV c (fd c cs (ixV h) 4), sn⟩ ∧ Mm w' m p r c (clV cs 1 (clV' c (ixV h) 4) 0 0) (cnt + 1) (acV cs 1 (clV' c (ixV h) 4) (plainV h) 0 0) ∧ Kept [b, p, r] w w' := by
  obtain ⟨n1, n2, n3⟩ := hB.nm hM
  have LD := hidOf (fun (W : World) (k : Kept [] w W) => (mload_any m p r c cs cnt a h 4 W (hM.new k) (hT.kept k) hh.1 hh.2 c0 c1).mono fun _ _ z => (⟨z.1, z.2.1, (k.weaken (m := [p, r]) (by simp)).trans z.2.2⟩ : _ ∧ _ ∧ Kept [p, r] w _))
  have bd := fd_word (c := c) hw (ixV h) 4
  unfold isW at bd
  have e : (acV cs 1 (clV' c (ixV h) 4) (plainV h) 0 0).o = fd c cs (ixV h) 4 := ld_o cs _ _
  rw [e] at LD
  clear e
  have h0 := R.h0
  have h1 := R.h1
  obtain ⟨X, hX⟩ : ∃ X, X = fd c cs (ixV h) 4 := ⟨_, rfl⟩
  rw [← hX] at LD bd ⊢
  clear hX
  have HS : Hid (∀ W : World, Kept [p, r] w W → HBk W b v h lv sn ∧ (W.cell? ⟨m, 0, none⟩ = some (.int .i64 c.t) ∧ W.cell? ⟨m, 1, none⟩ = some (.int .i64 c.s) ∧ W.cell? ⟨m, 2, none⟩ = some (.int .i64 c.c) ∧ W.cell? ⟨m, 3, none⟩ = some (.int .i64 c.h) ∧ W.cell? ⟨m, 4, none⟩ = some (.int .i64 c.k) ∧ W.cell? ⟨m, 5, none⟩ = some (.int .i64 c.e) ∧ W.cell? ⟨m, 6, none⟩ = some (.int .i64 c.l)) ∧ W.cell? ⟨b, 0, none⟩ = some (.int .u64 h)) := hidOf (by
    intro W k
    have z := k.blk hM.st (by simp [hM.mp, hM.mr])
    have y := hB.kept k (by simp; omega)
    exact ⟨y, ⟨cell_of_blk z (i := 0) rfl, cell_of_blk z (i := 1) rfl, cell_of_blk z (i := 2) rfl, cell_of_blk z (i := 3) rfl, cell_of_blk z (i := 4) rfl, cell_of_blk z (i := 5) rfl, cell_of_blk z (i := 6) rfl⟩, cell_of_blk y (i := 0) rfl⟩)
  have F3 := h_fldheight c
  have CF := hidOf (fun (W : World) (k : Kept [p, r] w W) => (config_any c W).mono fun _ _ z => (⟨z.1, z.2, k.trans (z.2.weaken (m := [p, r]) (by simp))⟩ : _ ∧ Kept [] W _ ∧ Kept [p, r] w _))
  clear hB hM hT hw hh R
  generalize clV cs 1 (clV' c (ixV h) 4) 0 0 = C at *
  generalize acV cs 1 (clV' c (ixV h) 4) (plainV h) 0 0 = A at *
  have HS2 := hidOf (fun (W : World) (k : Kept [p, r] w W) => (⟨(HS.out W k).2.2, (HS.out W k).2.1⟩ : W.cell? ⟨b, 0, none⟩ = some (.int .u64 h) ∧ _))
  have wr : IntKind.u64.wrap c.h = c.h := by rw [IntKind.wrap_u64]; omega
  have h2 : ¬ c.h < 1 := by omega
  by_cases x0 : X < 1
  · have e : tlV c X = 0 := by unfold tlV; rw [if_pos x0]; rfl
    rw [e]; clear e
    go_enter Tryd.func36, Tryd.ntmps36
    go_wp2_with fail
    go_region_held3 (fun W' => W'.cell? ⟨b, 0, none⟩ = some (.int .u64 h) ∧ W'.cell? ⟨m, 0, none⟩ = some (.int .i64 c.t) ∧ W'.cell? ⟨m, 1, none⟩ = some (.int .i64 c.s) ∧ W'.cell? ⟨m, 2, none⟩ = some (.int .i64 c.c) ∧ W'.cell? ⟨m, 3, none⟩ = some (.int .i64 c.h) ∧ W'.cell? ⟨m, 4, none⟩ = some (.int .i64 c.k) ∧ W'.cell? ⟨m, 5, none⟩ = some (.int .i64 c.e) ∧ W'.cell? ⟨m, 6, none⟩ = some (.int .i64 c.l))
      (exact HS2.out _ (by first | assumption | exact (Kept.refl [p, r] w).drew | exact Kept.refl _ _))
      (first
        | (go_at_call 30; with_reducible refine (LD.out _ (by first | assumption | exact (Kept.refl [] w).drew | exact Kept.refl _ _)).mono ?_; rintro e w7 ⟨rfl, M7, K7⟩)
        | (go_at_call 65; with_reducible refine (CF.out _ (by assumption)).mono ?_; rintro e w5 ⟨rfl, J5, K5⟩))
    all_goals
      have B5 := (HS.out _ K5).1
      have q1 := cell_of_blk B5 (i := 1) rfl
      have q2 := cell_of_blk B5 (i := 2) rfl
      have hf := free_of_blk B5
      have HE := hidOf (And.intro B5 (And.intro (M7.new J5) K5))
      clear B5 M7 J5 K5 K7 LD CF HS HS2 F3 wr
      go_wp2
      go_end0
      obtain ⟨B5, M5, K5⟩ := HE.out
      refine ⟨rfl, ?_, M5.kept ((Kept.refl [b] _).setCell (Or.inl (by simp)) _ |>.setCell (Or.inl (by simp)) _) (by simp; omega) (by simp; omega) (by simp; omega), ((K5.weaken (m := [b, p, r]) (by simp)).setCell (Or.inl (by simp)) _).setCell (Or.inl (by simp)) _⟩
      have z := blk_set (blk_set B5 2 (.int .i64 (0))) 1 (hfV 66)
      simpa [HB, HBk, phH, hfV] using z
  · by_cases x1 : c.h < X
    · have e : tlV c X = c.h - 1 := by unfold tlV; rw [if_neg x0, if_pos x1]
      rw [e]; clear e
      go_enter Tryd.func36, Tryd.ntmps36
      go_wp2_with fail
      go_region_held3 (fun W' => W'.cell? ⟨b, 0, none⟩ = some (.int .u64 h) ∧ W'.cell? ⟨m, 0, none⟩ = some (.int .i64 c.t) ∧ W'.cell? ⟨m, 1, none⟩ = some (.int .i64 c.s) ∧ W'.cell? ⟨m, 2, none⟩ = some (.int .i64 c.c) ∧ W'.cell? ⟨m, 3, none⟩ = some (.int .i64 c.h) ∧ W'.cell? ⟨m, 4, none⟩ = some (.int .i64 c.k) ∧ W'.cell? ⟨m, 5, none⟩ = some (.int .i64 c.e) ∧ W'.cell? ⟨m, 6, none⟩ = some (.int .i64 c.l))
        (exact HS2.out _ (by first | assumption | exact (Kept.refl [p, r] w).drew | exact Kept.refl _ _))
        (first
          | (go_at_call 30; with_reducible refine (LD.out _ (by first | assumption | exact (Kept.refl [] w).drew | exact Kept.refl _ _)).mono ?_; rintro e w7 ⟨rfl, M7, K7⟩)
          | (go_at_call 65; with_reducible refine (CF.out _ (by assumption)).mono ?_; rintro e w5 ⟨rfl, J5, K5⟩))
      all_goals
        have B5 := (HS.out _ K5).1
        have q1 := cell_of_blk B5 (i := 1) rfl
        have q2 := cell_of_blk B5 (i := 2) rfl
        have hf := free_of_blk B5
        have HE := hidOf (And.intro B5 (And.intro (M7.new J5) K5))
        clear B5 M7 J5 K5 K7 LD CF HS HS2 F3 wr
        go_wp2
        go_end0
        obtain ⟨B5, M5, K5⟩ := HE.out
        refine ⟨rfl, ?_, M5.kept ((Kept.refl [b] _).setCell (Or.inl (by simp)) _ |>.setCell (Or.inl (by simp)) _) (by simp; omega) (by simp; omega) (by simp; omega), ((K5.weaken (m := [b, p, r]) (by simp)).setCell (Or.inl (by simp)) _).setCell (Or.inl (by simp)) _⟩
        have z := blk_set (blk_set B5 2 (.int .i64 (c.h - 1))) 1 (hfV 66)
        simpa [HB, HBk, phH, hfV] using z
    · have e : tlV c X = X - 1 := by unfold tlV; rw [if_neg x0, if_neg x1]
      rw [e]; clear e
      go_enter Tryd.func36, Tryd.ntmps36
      go_wp2_with fail
      go_region_held3 (fun W' => W'.cell? ⟨b, 0, none⟩ = some (.int .u64 h) ∧ W'.cell? ⟨m, 0, none⟩ = some (.int .i64 c.t) ∧ W'.cell? ⟨m, 1, none⟩ = some (.int .i64 c.s) ∧ W'.cell? ⟨m, 2, none⟩ = some (.int .i64 c.c) ∧ W'.cell? ⟨m, 3, none⟩ = some (.int .i64 c.h) ∧ W'.cell? ⟨m, 4, none⟩ = some (.int .i64 c.k) ∧ W'.cell? ⟨m, 5, none⟩ = some (.int .i64 c.e) ∧ W'.cell? ⟨m, 6, none⟩ = some (.int .i64 c.l))
        (exact HS2.out _ (by first | assumption | exact (Kept.refl [p, r] w).drew | exact Kept.refl _ _))
        (first
          | (go_at_call 30; with_reducible refine (LD.out _ (by first | assumption | exact (Kept.refl [] w).drew | exact Kept.refl _ _)).mono ?_; rintro e w7 ⟨rfl, M7, K7⟩)
          | (go_at_call 65; with_reducible refine (CF.out _ (by assumption)).mono ?_; rintro e w5 ⟨rfl, J5, K5⟩))
      all_goals
        have B5 := (HS.out _ K5).1
        have q1 := cell_of_blk B5 (i := 1) rfl
        have q2 := cell_of_blk B5 (i := 2) rfl
        have hf := free_of_blk B5
        have HE := hidOf (And.intro B5 (And.intro (M7.new J5) K5))
        clear B5 M7 J5 K5 K7 LD CF HS HS2 F3 wr
        go_wp2
        go_end0
        obtain ⟨B5, M5, K5⟩ := HE.out
        refine ⟨rfl, ?_, M5.kept ((Kept.refl [b] _).setCell (Or.inl (by simp)) _ |>.setCell (Or.inl (by simp)) _) (by simp; omega) (by simp; omega) (by simp; omega), ((K5.weaken (m := [b, p, r]) (by simp)).setCell (Or.inl (by simp)) _).setCell (Or.inl (by simp)) _⟩
        have z := blk_set (blk_set B5 2 (.int .i64 (X - 1))) 1 (hfV 66)
        simpa [HB, HBk, phH, hfV] using z
set_option maxHeartbeats 4000000 in
theorem hnext_any (b m p r : Nat) (v : Value) (c : Cfg) (cs : List Int) (cnt : Int) (a : Acc) (h lv sn : Int) (w : World) (b0 : 0 < b) (hB : HBk w b v h lv sn) (hM : Mm w m p r c cs cnt a) (hT : Tab w) (l0 : 0 ≤ lv) (l1 : lv ≤ 100) (hw : Wds cs) (hh : isW h) (c0 : 0 ≤ cnt) (c1 : cnt < 4611686018427387904) :
    Calls Tryd.prog 66 #[.pointer (some ⟨b, 0, none⟩), .pointer (some ⟨m, 0, none⟩)] w fun e w' => e = .returned (.tuple #[]) ∧ HB w' b (if mkB (rdG cs (clV' c (ixV h) (6 + lv))) = true then (Hm.mk h 1 lv (rdG cs (clV' c (ixV h) (6 + lv)))).down else ⟨h, 2, lv, rdG cs (clV' c (ixV h) (6 + lv))⟩) ∧ Mm w' m p r c (clV cs 1 (clV' c (ixV h) (6 + lv)) 0 0) (cnt + 1) (acV cs 1 (clV' c (ixV h) (6 + lv)) (plainV h) 0 0) ∧ Kept [b, p, r] w w' := by
  have nm := hB.nm hM
  have LD := hidOf (fun (W : World) (k : Kept [] w W) => (mload_any m p r c cs cnt a h (6 + lv) W (hM.new k) (hT.kept k) hh.1 hh.2 c0 c1).mono fun _ _ z => And.intro z.1 (And.intro z.2.1 ((k.weaken (m := [p, r]) (by simp)).trans z.2.2)))
  have FD := hidOf (fun (W : World) (k : Kept [] w W) => hfield_any b v h lv sn W (hB.kept k (by simp)) l0 l1)
  have bd := rd_word hw (clV' c (ixV h) (6 + lv))
  unfold isW at bd
  have e : (acV cs 1 (clV' c (ixV h) (6 + lv)) (plainV h) 0 0).o = rdG cs (clV' c (ixV h) (6 + lv)) := ld_o cs _ _
  rw [e] at LD
  clear e
  obtain ⟨X, hX⟩ : ∃ X, X = rdG cs (clV' c (ixV h) (6 + lv)) := ⟨_, rfl⟩
  rw [← hX] at LD bd ⊢
  clear hX
  obtain ⟨G, hG⟩ : ∃ G, G = if mkB X = true then (Hm.mk h 1 lv X).down else ⟨h, 2, lv, X⟩ := ⟨_, rfl⟩
  rw [← hG]
  have HG := hidOf hG
  clear hG
  have HNM := hidOf nm
  have HBB := hidOf hB
  have HT := hidOf hT
  have HM := hidOf hM
  have HB0 := hidOf b0
  have q0 := cell_of_blk hB (i := 0) rfl
  clear hM hT hw hh hB nm b0
  generalize clV cs 1 (clV' c (ixV h) (6 + lv)) 0 0 = C at LD ⊢
  generalize acV cs 1 (clV' c (ixV h) (6 + lv)) (plainV h) 0 0 = A at LD ⊢
  have HS0 : Hid (∀ W' : World, Kept [p, r] w W' → W'.cell? ⟨b, 0, none⟩ = some (.int .u64 h)) := by
    intro W' k
    have := HNM.out
    exact cell_of_blk (k.blk HBB.out (by simp; omega)) (i := 0) rfl
  have HS3 : Hid (∀ W' : World, HBk W' b v h lv sn → (W'.setCell ⟨b, 3, none⟩ (.int .u64 X)).cell? ⟨b, 0, none⟩ = some (.int .u64 h)) := fun W' z => cell_of_blk (z.set3 X) (i := 0) rfl
  go_enter Tryd.func66, Tryd.ntmps66
  go_wp2_with fail
  go_region_held3 (fun W' => W'.cell? ⟨b, 0, none⟩ = some (.int .u64 h))
      (first | exact HS0.out _ (by assumption) | exact HS3.out _ (by assumption) | exact HS0.out _ (Kept.weaken (m := [p, r]) (by assumption) (by simp)) | exact HS0.out _ (Kept.refl _ _).drew | exact HS0.out _ (Kept.refl _ _))
      (first
        | (go_at_call 78; refine (FD.out _ (by first | assumption | exact (Kept.refl _ _).drew)).mono ?_; rintro e w5 ⟨rfl, rfl⟩)
        | (go_at_call 30; refine (LD.out _ (by first | assumption | exact (Kept.refl _ _).drew)).mono ?_; rintro e w7 ⟨rfl, M7, K7⟩
           have Z7 := HBB.out.kept K7 (by have := HNM.out; simp; omega)
           have z3 := cell_of_blk Z7 (i := 3) rfl
           have zf7 := free_of_blk Z7
           have zl7 := lt_of_blk Z7))
  have HX7 := hidOf (And.intro Z7 (And.intro (HT.out.mm HM.out K7) (And.intro M7 K7)))
  clear M7 Z7 K7 z3 zf7 zl7 LD FD HS0 HS3 q0
  go_upto_region 1 with (fail)
  refine gen_world (fun W => HBk W b v h lv X ∧ Tab W ∧ Mm W m p r c C (cnt + 1) A ∧ Kept [b, p, r] w W) ?_ ?_
  · obtain ⟨Z, T, M, K7⟩ := HX7.out
    have ks := (Kept.refl [b] w7).setCell (p := ⟨b, 3, none⟩) (Or.inl (by simp)) (.int .u64 X)
    have := HNM.out
    have b0 := HB0.out
    exact ⟨Z.set3 X, T.keptL ks (by simp; omega), M.kept ks (by simp; omega) (by simp; omega) (by simp; omega), (K7.weaken (m := [b, p, r]) (by simp; try omega)).then ks (by simp)⟩
  clear HX7 HBB HM HT
  rintro W ⟨Z, T, M, KK⟩
  have z3 := cell_of_blk Z (i := 3) rfl
  have MK := hidOf (marked_any X W T bd.1 bd.2)
  have HZ := hidOf (And.intro Z (And.intro M KK))
  clear Z T M KK
  obtain ⟨B, hB⟩ : ∃ B, mkB X = B := ⟨_, rfl⟩
  rw [hB] at MK HG
  clear hB
  cases B with
  | true =>
    go_wp2_with fail
    refine MK.out.mono ?_
    rintro e w3 ⟨rfl, K3⟩
    have EN := hidOf (hend_any b v h lv X 1 w3 (HZ.out.1.kept K3 (by simp)) l0 l1)
    have HZ3 := hidOf (And.intro (HZ.out.2.1.new K3) (HZ.out.2.2.trans (K3.weaken (m := [b, p, r]) (by simp))))
    clear HZ MK K3 z3
    go_wp2_with fail
    refine EN.out.mono ?_
    rintro e w4 ⟨rfl, B4, K4⟩
    have := HNM.out
    have HZ4 := hidOf (And.intro B4 (And.intro (HZ3.out.1.kept K4 (by simp; omega) (by simp; omega) (by simp; omega)) (HZ3.out.2.trans (K4.weaken (m := [b, p, r]) (by simp)))))
    clear EN B4 K4 HZ3 this
    go_wp2
    exact bodyPost_ret (v := .tuple #[]) (by simp [results, Tryd.results66, go_sem]) rfl ⟨rfl, by have z := HG.out; simp only [if_true] at z; rw [z]; exact HZ4.out.1, HZ4.out.2⟩
  | false =>
    go_wp2_with fail
    refine MK.out.mono ?_
    rintro e w3 ⟨rfl, K3⟩
    have Z3 := HZ.out.1.kept K3 (by simp)
    have q1 := cell_of_blk Z3 (i := 1) rfl
    have hf := free_of_blk Z3
    have HZ3 := hidOf (And.intro Z3 (And.intro (HZ.out.2.1.new K3) (HZ.out.2.2.trans (K3.weaken (m := [b, p, r]) (by simp)))))
    clear HZ MK K3 z3 Z3
    go_wp2
    go_end0
    have := HNM.out
    have ks := (Kept.refl [b] w3).setCell (p := ⟨b, 1, none⟩) (Or.inl (by simp)) (hfV 80)
    exact ⟨rfl, by rw [HG.out, if_neg (by decide)]; exact HZ3.out.1.set1 _, HZ3.out.2.1.kept ks (by simp; omega) (by simp; omega) (by simp; omega), HZ3.out.2.2.trans (ks.weaken (m := [b, p, r]) (by simp))⟩
set_option maxHeartbeats 4000000 in
theorem hmark_any (b m p r : Nat) (v : Value) (c : Cfg) (cs : List Int) (cnt : Int) (a : Acc) (h lv sn : Int) (w : World) (hB : HBk w b v h lv sn) (hM : Mm w m p r c cs cnt a) (hT : Tab w) (l0 : 0 ≤ lv) (l1 : lv ≤ 100) (hh : isW h) (hs : isW sn) (c0 : 0 ≤ cnt) (c1 : cnt < 4611686018427387904) :
    Calls Tryd.prog 80 #[.pointer (some ⟨b, 0, none⟩), .pointer (some ⟨m, 0, none⟩)] w fun e w' => e = .returned (.tuple #[]) ∧ HB w' b (if (acV cs 3 (clV' c (ixV h) (6 + lv)) (plainV h) sn (markV sn)).d = true then (Hm.mk h 2 lv sn).down else ⟨h, 1, lv, sn⟩) ∧ Mm w' m p r c (clV cs 3 (clV' c (ixV h) (6 + lv)) sn (markV sn)) (cnt + 1) (acV cs 3 (clV' c (ixV h) (6 + lv)) (plainV h) sn (markV sn)) ∧ Kept [b, p, r] w w' := by
  have nm := hB.nm hM
  have SW := hidOf (fun (W : World) (k : Kept [] w W) => (mswap_any m p r c cs cnt a h (6 + lv) sn (markV sn) W (hM.new k) (hT.kept k) hh.1 hh.2 c0 c1).mono fun _ _ z => And.intro z.1 (And.intro z.2.1 ((k.weaken (m := [p, r]) (by simp)).trans z.2.2)))
  have FD := hidOf (fun (W : World) (k : Kept [] w W) => hfield_any b v h lv sn W (hB.kept k (by simp)) l0 l1)
  have MK := hidOf (fun (W : World) (k : Kept [] w W) => (mark_any sn W (hT.kept k) hs.1 hs.2).mono fun _ _ z => And.intro z.1 (k.trans z.2))
  obtain ⟨Y, hY⟩ : ∃ Y, Y = markV sn := ⟨_, rfl⟩
  rw [← hY] at SW MK ⊢
  clear hY
  have HNM := hidOf nm
  have HBB := hidOf hB
  have q0 := cell_of_blk hB (i := 0) rfl
  have q3 := cell_of_blk hB (i := 3) rfl
  clear hM hT hh hs hB nm
  generalize clV cs 3 (clV' c (ixV h) (6 + lv)) sn Y = C at SW ⊢
  generalize acV cs 3 (clV' c (ixV h) (6 + lv)) (plainV h) sn Y = A at SW ⊢
  have HS0 : Hid (∀ W' : World, Kept [p, r] w W' → W'.cell? ⟨b, 0, none⟩ = some (.int .u64 h) ∧ W'.cell? ⟨b, 3, none⟩ = some (.int .u64 sn)) := by
    intro W' k
    have := HNM.out
    exact ⟨cell_of_blk (k.blk HBB.out (by simp; omega)) (i := 0) rfl, cell_of_blk (k.blk HBB.out (by simp; omega)) (i := 3) rfl⟩
  obtain ⟨B, hB⟩ : ∃ B, A.d = B := ⟨_, rfl⟩
  rw [hB] at SW ⊢
  clear hB
  cases B with
  | true =>
    rw [if_pos rfl]
    go_enter Tryd.func80, Tryd.ntmps80
    go_wp2_with fail
    go_region_held3 (fun W' => W'.cell? ⟨b, 0, none⟩ = some (.int .u64 h) ∧ W'.cell? ⟨b, 3, none⟩ = some (.int .u64 sn))
      (first | exact HS0.out _ (by assumption) | exact HS0.out _ (Kept.weaken (m := [p, r]) (by assumption) (by simp)) | exact HS0.out _ (Kept.refl _ _).drew | exact HS0.out _ (Kept.refl _ _))
      (first
        | (go_at_call 78; refine (FD.out _ (by first | assumption | exact (Kept.refl _ _).drew)).mono ?_; rintro e w5 ⟨rfl, rfl⟩)
        | (go_at_call 23; refine (MK.out _ (by first | assumption | exact (Kept.refl _ _).drew)).mono ?_; rintro e w6 ⟨rfl, K6⟩)
        | (go_at_call 84; refine (SW.out _ (by first | assumption | exact (Kept.refl _ _).drew)).mono ?_; rintro e w7 ⟨rfl, M7, K7⟩))
    have EN := hidOf (hend_any b v h lv sn 2 w7 (HBB.out.kept K7 (by have := HNM.out; simp; omega)) l0 l1)
    have HX7 := hidOf (And.intro M7 K7)
    clear M7 K7 SW FD MK HS0 q0 q3
    go_wp2_with fail
    refine EN.out.mono ?_
    rintro e w8 ⟨rfl, B8, K8⟩
    have := HNM.out
    have HZ4 := hidOf (And.intro B8 (And.intro (HX7.out.1.kept K8 (by simp; omega) (by simp; omega) (by simp; omega)) ((HX7.out.2.weaken (m := [b, p, r]) (by simp)).trans (K8.weaken (m := [b, p, r]) (by simp)))))
    clear EN B8 K8 HX7 this
    go_wp2
    exact bodyPost_ret (v := .tuple #[]) (by simp [results, Tryd.results80, go_sem]) rfl ⟨rfl, HZ4.out⟩
  | false =>
    rw [if_neg (by decide)]
    go_enter Tryd.func80, Tryd.ntmps80
    go_wp2_with fail
    go_region_held3 (fun W' => W'.cell? ⟨b, 0, none⟩ = some (.int .u64 h) ∧ W'.cell? ⟨b, 3, none⟩ = some (.int .u64 sn))
      (first | exact HS0.out _ (by assumption) | exact HS0.out _ (Kept.weaken (m := [p, r]) (by assumption) (by simp)) | exact HS0.out _ (Kept.refl _ _).drew | exact HS0.out _ (Kept.refl _ _))
      (first
        | (go_at_call 78; refine (FD.out _ (by first | assumption | exact (Kept.refl _ _).drew)).mono ?_; rintro e w5 ⟨rfl, rfl⟩)
        | (go_at_call 23; refine (MK.out _ (by first | assumption | exact (Kept.refl _ _).drew)).mono ?_; rintro e w6 ⟨rfl, K6⟩)
        | (go_at_call 84; refine (SW.out _ (by first | assumption | exact (Kept.refl _ _).drew)).mono ?_; rintro e w7 ⟨rfl, M7, K7⟩))
    have Z7 := HBB.out.kept K7 (by have := HNM.out; simp; omega)
    have q1 := cell_of_blk Z7 (i := 1) rfl
    have hf := free_of_blk Z7
    have HX7 := hidOf (And.intro Z7 (And.intro M7 K7))
    clear M7 K7 SW FD MK HS0 q0 q3 Z7
    go_wp2
    go_end0
    have := HNM.out
    have ks := (Kept.refl [b] w7).setCell (p := ⟨b, 1, none⟩) (Or.inl (by simp)) (hfV 66)
    exact ⟨rfl, HX7.out.1.set1 _, HX7.out.2.1.kept ks (by simp; omega) (by simp; omega) (by simp; omega), (HX7.out.2.2.weaken (m := [b, p, r]) (by simp)).trans (ks.weaken (m := [b, p, r]) (by simp))⟩
set_option maxHeartbeats 4000000 in
/-- Any step. -/
theorem hstep_any (b m p r : Nat) (c : Cfg) (cs : List Int) (cnt : Int) (a : Acc) (s : Hm) (w : World) (b0 : 0 < b) (hB : HB w b s) (hM : Mm w m p r c cs cnt a) (hT : Tab w) (R : Rt c) (hI : HI c s) (hw : Wds cs) (c0 : 0 ≤ cnt) (c1 : cnt < 4611686018427387904) :
    Calls Tryd.prog 13 #[.pointer (some ⟨b, 0, none⟩), .pointer (some ⟨m, 0, none⟩)] w fun e w' => e = .returned (.tuple #[]) ∧ HB w' b (hF c cs s) ∧ Mm w' m p r c (hC c cs s) (hN cnt s) (hA c cs a s) ∧ Kept [b, p, r] w w' := by
  have DN := hidOf (hdone_any b s w hB hI.ph)
  have q1 := cell_of_blk hB (i := 1) rfl
  have lc : ∀ x, clV cs 1 x 0 0 = cs := fun x => clV_load cs x 0 0
  rcases (by have := hI.ph; omega : s.ph = 0 ∨ s.ph = 1 ∨ s.ph = 2 ∨ s.ph = 3) with e | e | e | e
  · have GO := hidOf (htall_any b m p r _ c cs cnt a s.h s.lv s.sn w hB hM hT R hw hI.h c0 c1)
    rw [lc] at GO
    rw [show hF c cs s = ⟨s.h, 1, tlV c (fd c cs (ixV s.h) 4), s.sn⟩ from if_pos e, show hC c cs s = cs from if_neg (by omega), show hN cnt s = cnt + 1 from if_pos (by omega), show hA c cs a s = acV cs 1 (clV' c (ixV s.h) 4) (plainV s.h) 0 0 from if_pos e]
    rw [show decide (s.ph = 3) = false from decide_eq_false (by omega)] at DN
    rw [e] at q1
    simp only [phH, hfV] at q1
    clear hB hM hT hI hw e lc
    go_enter Tryd.func13, Tryd.ntmps13
    go_wp2_with fail
    refine DN.out.mono ?_
    rintro e w1 ⟨rfl, rfl⟩
    go_wp2_with fail
    refine GO.out.mono ?_
    rintro e w2 ⟨rfl, hh⟩
    have HH := hidOf hh
    clear hh
    go_wp2
    go_end0
    exact ⟨rfl, HH.out⟩
  · have l := hI.lv (Or.inl e)
    have h6 := R.h1
    have GO := hidOf (hnext_any b m p r _ c cs cnt a s.h s.lv s.sn w b0 hB hM hT l.1 (by omega) hw hI.h c0 c1)
    rw [lc] at GO
    rw [show hF c cs s = (if mkB (rdG cs (clV' c (ixV s.h) (6 + s.lv))) = true then (Hm.mk s.h 1 s.lv (rdG cs (clV' c (ixV s.h) (6 + s.lv)))).down else ⟨s.h, 2, s.lv, rdG cs (clV' c (ixV s.h) (6 + s.lv))⟩) from (if_neg (by omega)).trans (if_pos e), show hC c cs s = cs from if_neg (by omega), show hN cnt s = cnt + 1 from if_pos (by omega), show hA c cs a s = acV cs 1 (clV' c (ixV s.h) (6 + s.lv)) (plainV s.h) 0 0 from (if_neg (by omega)).trans (if_pos e)]
    rw [show decide (s.ph = 3) = false from decide_eq_false (by omega)] at DN
    rw [e] at q1
    simp only [phH, hfV] at q1
    generalize (if mkB (rdG cs (clV' c (ixV s.h) (6 + s.lv))) = true then (Hm.mk s.h 1 s.lv (rdG cs (clV' c (ixV s.h) (6 + s.lv)))).down else (⟨s.h, 2, s.lv, rdG cs (clV' c (ixV s.h) (6 + s.lv))⟩ : Hm)) = G at GO ⊢
    clear hB hM hT hI hw e lc l h6
    go_enter Tryd.func13, Tryd.ntmps13
    go_wp2_with fail
    refine DN.out.mono ?_
    rintro e w1 ⟨rfl, rfl⟩
    go_wp2_with fail
    refine GO.out.mono ?_
    rintro e w2 ⟨rfl, hh⟩
    have HH := hidOf hh
    clear hh
    go_wp2
    go_end0
    exact ⟨rfl, HH.out⟩
  · have l := hI.lv (Or.inr e)
    have h6 := R.h1
    have GO := hidOf (hmark_any b m p r _ c cs cnt a s.h s.lv s.sn w hB hM hT l.1 (by omega) hI.h hI.sn c0 c1)
    have ed : (Hm.mk s.h 2 s.lv s.sn).down = s.down := rfl
    rw [ed] at GO
    rw [show hF c cs s = (if (acV cs 3 (clV' c (ixV s.h) (6 + s.lv)) (plainV s.h) s.sn (markV s.sn)).d = true then s.down else ⟨s.h, 1, s.lv, s.sn⟩) from ((if_neg (by omega)).trans (if_neg (by omega))).trans (if_pos e), show hC c cs s = clV cs 3 (clV' c (ixV s.h) (6 + s.lv)) s.sn (markV s.sn) from if_pos e, show hN cnt s = cnt + 1 from if_pos (by omega), show hA c cs a s = acV cs 3 (clV' c (ixV s.h) (6 + s.lv)) (plainV s.h) s.sn (markV s.sn) from ((if_neg (by omega)).trans (if_neg (by omega))).trans (if_pos e)]
    rw [show decide (s.ph = 3) = false from decide_eq_false (by omega)] at DN
    rw [e] at q1
    simp only [phH, hfV] at q1
    generalize (if (acV cs 3 (clV' c (ixV s.h) (6 + s.lv)) (plainV s.h) s.sn (markV s.sn)).d = true then s.down else (⟨s.h, 1, s.lv, s.sn⟩ : Hm)) = G at GO ⊢
    clear hB hM hT hI hw e lc l h6 ed
    go_enter Tryd.func13, Tryd.ntmps13
    go_wp2_with fail
    refine DN.out.mono ?_
    rintro e w1 ⟨rfl, rfl⟩
    go_wp2_with fail
    refine GO.out.mono ?_
    rintro e w2 ⟨rfl, hh⟩
    have HH := hidOf hh
    clear hh
    go_wp2
    go_end0
    exact ⟨rfl, HH.out⟩
  · obtain ⟨e1, e2⟩ := hF_done (c := c) (cs := cs) e
    rw [e1, e2, show hN cnt s = cnt from if_neg (by omega), show hA c cs a s = a from ((if_neg (by omega)).trans (if_neg (by omega))).trans (if_neg (by omega))]
    rw [show decide (s.ph = 3) = true from decide_eq_true e] at DN
    have HH := hidOf (And.intro hB (And.intro hM (Kept.refl [b, p, r] w)))
    clear hB hM hT hI hw e lc e1 e2 q1
    go_enter Tryd.func13, Tryd.ntmps13
    go_wp2_with fail
    refine DN.out.mono ?_
    rintro e w1 ⟨rfl, rfl⟩
    go_wp2
    go_end0
    exact ⟨rfl, HH.out⟩
end K
end Go.Proofs.YtjbdaejkofkcpaaDoor
