/-
  The contracts of package find: a find's block, and what its calls make of it.
  A find as the document has it, and the block that stands for it.
  The contracts of package find: how a level ends.
  The contracts of package find: reading.
  The contracts of package find: the other steps.
  The contracts of package find: looking behind a node, and unlinking it.
  The contracts of package find: any step.
  The contracts of package find: what it tells of a level.
  What a find that is done tells of a level.
-/
import Derived.Test.YtgafmklfpiipcaaGreatDoorGWld
import Derived.Test.YtgafmklfpiipcaaGreatDoorFMath
import Derived.Deep.RegionHeld3
import Derived.Laws.EntriesVeiled
namespace Go.Proofs.YtgafmklfpiipcaaGreatDoor
open Go.RowKit (Grown Hid Below)
open Go.Deep
namespace K
set_option maxRecDepth 100000
theorem f_eqnil (w : World) : (binOp .eql 53 .nilFunc .nilFunc).run Tryz.prog w = .ok (.bool true) w := by kernel_rfl
theorem f_eqfun (w : World) (f : Fn) (x y : Array Value) : (binOp .eql 53 (.func f x y) .nilFunc).run Tryz.prog w = .ok (.bool false) w := by kernel_rfl
/-- A find's block. -/
def FB (w : World) (b : Nat) (v : Value) (k lv pr x s era : Int) (ao : Option Addr) (n : Nat) (a : Int) : Prop := w.heap[b]? = some (.cells #[.int .u64 k, v, .int .i64 lv, .int .u64 pr, .int .u64 x, .int .u64 s, .int .u64 era, .slice ao n n, .int .i64 a] 113 (0, 0))
def ffV (f : Nat) (b : Nat) : Value := .func (.func f) #[.pointer (some ⟨b, 0, none⟩)] #[]
theorem FB.kept {l : List Nat} {w w' : World} {b : Nat} {v : Value} {k lv pr x s era : Int} {ao : Option Addr} {n : Nat} {a : Int} (h : FB w b v k lv pr x s era ao n a) (kk : Kept l w w') (hb : b ∉ l) : FB w' b v k lv pr x s era ao n a := kk.blk h hb
theorem FB.nm {w : World} {b : Nat} {v : Value} {k lv pr x s era : Int} {ao : Option Addr} {n : Nat} {at_ : Int} {m p r : Nat} {c : Cfg} {cs : List Int} {cnt : Int} {a : Acc} (h : FB w b v k lv pr x s era ao n at_) (hM : Mm w m p r c cs cnt a) : ¬ b = m ∧ ¬ b = p ∧ ¬ b = r := by
  unfold FB at h
  refine ⟨fun e => ?_, fun e => ?_, fun e => ?_⟩
  · have z := hM.st; rw [← e, h] at z; simp at z
  · have z := hM.bk.st; rw [← e, h] at z; simp at z
  · have z := hM.bk.row; unfold Row at z; rw [← e, h] at z; simp at z
theorem FB.ng {w : World} {b : Nat} {v : Value} {k lv pr x s era : Int} {ao : Option Addr} {n : Nat} {at_ : Int} {g : Nat} {gs : Gs} (h : FB w b v k lv pr x s era ao n at_) (hG : GB w g gs) : ¬ b = g := fun e => by
  unfold FB at h; unfold GB at hG; rw [← e, h] at hG; simp at hG
theorem FB.set1 {w : World} {b : Nat} {v : Value} {k lv pr x s era : Int} {ao : Option Addr} {n : Nat} {a : Int} (h : FB w b v k lv pr x s era ao n a) (y : Value) : FB (w.setCell ⟨b, 1, none⟩ y) b y k lv pr x s era ao n a := by
  have z := blk_set h 1 y
  simpa [FB] using z
theorem FB.set2 {w : World} {b : Nat} {v : Value} {k lv pr x s era : Int} {ao : Option Addr} {n : Nat} {a : Int} (h : FB w b v k lv pr x s era ao n a) (y : Int) : FB (w.setCell ⟨b, 2, none⟩ (.int .i64 y)) b v k y pr x s era ao n a := by
  have z := blk_set h 2 (.int .i64 y)
  simpa [FB] using z
theorem FB.set3 {w : World} {b : Nat} {v : Value} {k lv pr x s era : Int} {ao : Option Addr} {n : Nat} {a : Int} (h : FB w b v k lv pr x s era ao n a) (y : Int) : FB (w.setCell ⟨b, 3, none⟩ (.int .u64 y)) b v k lv y x s era ao n a := by
  have z := blk_set h 3 (.int .u64 y)
  simpa [FB] using z
theorem FB.set4 {w : World} {b : Nat} {v : Value} {k lv pr x s era : Int} {ao : Option Addr} {n : Nat} {a : Int} (h : FB w b v k lv pr x s era ao n a) (y : Int) : FB (w.setCell ⟨b, 4, none⟩ (.int .u64 y)) b v k lv pr y s era ao n a := by
  have z := blk_set h 4 (.int .u64 y)
  simpa [FB] using z
theorem FB.set5 {w : World} {b : Nat} {v : Value} {k lv pr x s era : Int} {ao : Option Addr} {n : Nat} {a : Int} (h : FB w b v k lv pr x s era ao n a) (y : Int) : FB (w.setCell ⟨b, 5, none⟩ (.int .u64 y)) b v k lv pr x y era ao n a := by
  have z := blk_set h 5 (.int .u64 y)
  simpa [FB] using z
theorem FB.set6 {w : World} {b : Nat} {v : Value} {k lv pr x s era : Int} {ao : Option Addr} {n : Nat} {a : Int} (h : FB w b v k lv pr x s era ao n a) (y : Int) : FB (w.setCell ⟨b, 6, none⟩ (.int .u64 y)) b v k lv pr x s y ao n a := by
  have z := blk_set h 6 (.int .u64 y)
  simpa [FB] using z
theorem FB.set8 {w : World} {b : Nat} {v : Value} {k lv pr x s era : Int} {ao : Option Addr} {n : Nat} {a : Int} (h : FB w b v k lv pr x s era ao n a) (y : Int) : FB (w.setCell ⟨b, 8, none⟩ (.int .i64 y)) b v k lv pr x s era ao n y := by
  have z := blk_set h 8 (.int .i64 y)
  simpa [FB] using z
set_option maxHeartbeats 2000000 in
theorem fnew_any (k : Int) (w : World) : Calls Tryz.prog 21 #[.int .u64 k] w fun e w' => ∃ b, e = .returned (.pointer (some ⟨b, 0, none⟩)) ∧ w.heap.size ≤ b ∧ FB w' b (ffV 46 b) k 0 0 0 0 0 none 0 0 ∧ Kept [] w w' := by
  go_enter Tryz.func21, Tryz.ntmps21
  go_wp2
  go_ret
  exact ⟨_, rfl, Nat.le_refl _, blk_alloc_new w _, (Kept.refl [] w).alloc _⟩
set_option maxHeartbeats 2000000 in
theorem fdone_no (b f : Nat) (k lv pr x s era : Int) (ao : Option Addr) (n : Nat) (a : Int) (w : World) (hF : FB w b (ffV f b) k lv pr x s era ao n a) :
    Calls Tryz.prog 81 #[.pointer (some ⟨b, 0, none⟩)] w fun e w' => e = .returned (.bool false) ∧ w' = w := by
  have q1 := cell_of_blk hF (i := 1) rfl
  unfold ffV at q1
  have E1 := f_eqfun
  go_enter Tryz.func81, Tryz.ntmps81
  go_wp2
  go_ret
  exact ⟨rfl, rfl⟩
set_option maxHeartbeats 2000000 in
theorem fdone_yes (b : Nat) (k lv pr x s era : Int) (ao : Option Addr) (n : Nat) (a : Int) (w : World) (hF : FB w b .nilFunc k lv pr x s era ao n a) :
    Calls Tryz.prog 81 #[.pointer (some ⟨b, 0, none⟩)] w fun e w' => e = .returned (.bool true) ∧ w' = w := by
  have q1 := cell_of_blk hF (i := 1) rfl
  have E1 := f_eqnil
  go_enter Tryz.func81, Tryz.ntmps81
  go_wp2
  go_ret
  exact ⟨rfl, rfl⟩
set_option maxHeartbeats 2000000 in
theorem fnext_any (b : Nat) (v : Value) (k lv pr x s era : Int) (ao : Option Addr) (n : Nat) (a : Int) (w : World) (hF : FB w b v k lv pr x s era ao n a) (l0 : 0 ≤ lv) (l1 : lv ≤ 100) :
    Calls Tryz.prog 94 #[.pointer (some ⟨b, 0, none⟩)] w fun e w' => e = .returned (.int .i64 (6 + lv)) ∧ w' = w := by
  have q1 := cell_of_blk hF (i := 2) rfl
  go_enter Tryz.func94, Tryz.ntmps94
  go_wp2
  go_ret
  exact ⟨ret_i64 (by go_num), rfl⟩
theorem isT_bt : IsT 166 3 := ⟨by kernel_rfl, _, Tryz.underlying166⟩
theorem bt_field (w : World) (x y z : Int) : (Instr.field 166 (.agg #[.int .u64 x, .int .u64 y, .int .u64 z]) 0).run Tryz.prog w = .ok (.int .u64 x) w ∧ (Instr.field 166 (.agg #[.int .u64 x, .int .u64 y, .int .u64 z]) 1).run Tryz.prog w = .ok (.int .u64 y) w ∧ (Instr.field 166 (.agg #[.int .u64 x, .int .u64 y, .int .u64 z]) 2).run Tryz.prog w = .ok (.int .u64 z) w := ⟨by kernel_rfl, by kernel_rfl, by kernel_rfl⟩
/-- How the levels ended: a row of its own. -/
def EB (w : World) (g : Nat) (A : Array Value) : Prop := RW 166 w g A
theorem fldheight (c : Cfg) (w : World) : (Instr.field 23 c.val 3).run Tryz.prog w = .ok (.int .i64 c.h) w := by kernel_rfl
theorem info_bt : (Tryz.prog.info? 166).map (fun i => (i.zero, i.size, i.bytes)) = some (some (.agg #[.int .u64 0, .int .u64 0, .int .u64 0]), 3, 24) := by kernel_rfl
theorem make_ends (w : World) (c : Cfg) (h0 : 1 ≤ c.h) (h1 : c.h ≤ 100) : ∃ A, (Instr.makeSlice 111 (.int .i64 c.h) (.int .i64 c.h)).run Tryz.prog w = .ok (.slice (some ⟨w.heap.size, 0, none⟩) (HN c) (HN c)) (w.alloc (.cells A 166)) ∧ A.size = HN c * 3 := by
  obtain ⟨i, h1', h2, h3, h4⟩ := info_parts' info_bt
  have z := run_make (P := Tryz.prog) w 111 166 i _ Tryz.underlying111 h1' h2 .i64 .i64 c.h c.h (by omega) (Int.le_refl _) (by rw [h4]; omega) (by omega)
  rw [h3] at z
  exact ⟨_, z, size_madeCells _ _⟩
set_option maxHeartbeats 4000000 in
theorem fanew_any (b m p r : Nat) (v : Value) (k lv pr x s era : Int) (ao : Option Addr) (n : Nat) (at_ : Int) (c : Cfg) (cs : List Int) (cnt : Int) (a : Acc) (w : World) (hF : FB w b v k lv pr x s era ao n at_) (hM : Mm w m p r c cs cnt a) (hT : Tab w) (hb0 : 0 < b) (h0 : 1 ≤ c.h) (h1 : c.h ≤ 100) :
    Calls Tryz.prog 75 #[.pointer (some ⟨b, 0, none⟩), .pointer (some ⟨m, 0, none⟩)] w fun e w' => e = .returned (.tuple #[]) ∧ (∃ g A, w.heap.size ≤ g ∧ FB w' b (ffV 76 b) k (c.h - 1) 9223372036854775808 x s era (some ⟨g, 0, none⟩) (HN c) at_ ∧ EB w' g A ∧ A.size = HN c * 3) ∧ Kept [b] w w' := by
  have q0 := cell_of_blk hM.st (i := 0) rfl
  have q1 := cell_of_blk hM.st (i := 1) rfl
  have q2 := cell_of_blk hM.st (i := 2) rfl
  have q3 := cell_of_blk hM.st (i := 3) rfl
  have q4 := cell_of_blk hM.st (i := 4) rfl
  have q5 := cell_of_blk hM.st (i := 5) rfl
  have q6 := cell_of_blk hM.st (i := 6) rfl
  have F3 := fldheight c
  have MK := hidOf (fun W => make_ends W c h0 h1)
  have HT := hidOf hT
  have HF := hidOf hF
  have hh : ((HN c : Nat) : Int) = c.h := by unfold HN; omega
  clear hT hF hM
  go_enter Tryz.func75, Tryz.ntmps75
  go_wp2_with fail
  refine (config_any c _).mono ?_
  rintro e w1 ⟨rfl, K1⟩
  obtain ⟨A, MK1, hA⟩ := MK.out w1
  have Z := HF.out.kept K1 (by simp)
  have z7 := cell_of_blk Z (i := 7) rfl
  have zf := free_of_blk Z
  have hb := lt_of_blk Z
  have HZ := hidOf Z
  clear Z MK q0 q1 q2 q3 q4 q5 q6
  go_upto_region 1 with (fail)
  obtain ⟨g, hg⟩ : ∃ g, g = w1.heap.size := ⟨_, rfl⟩
  rw [← hg]
  refine gen_world (fun W => FB W b v k lv pr x s era (some ⟨g, 0, none⟩) (HN c) at_ ∧ EB W g A ∧ Kept [b] w W) ?_ ?_
  · have z := blk_set HZ.out 7 (.slice (some ⟨g, 0, none⟩) (HN c) (HN c))
    have z1 : FB (w1.setCell ⟨b, 7, none⟩ (.slice (some ⟨g, 0, none⟩) (HN c) (HN c))) b v k lv pr x s era (some ⟨g, 0, none⟩) (HN c) at_ := by simpa [FB] using z
    refine ⟨z1.kept ((Kept.refl [] _).alloc _) (by simp), ?_, ((K1.weaken (m := [b]) (by simp)).setCell (Or.inl (by simp)) _).alloc _⟩
    have q := RW.new 166 (w1.setCell ⟨b, 7, none⟩ (.slice (some ⟨g, 0, none⟩) (HN c) (HN c))) A
    rw [show (w1.setCell ⟨b, 7, none⟩ (.slice (some ⟨g, 0, none⟩) (HN c) (HN c))).heap.size = g by rw [hg]; simp] at q
    exact q
  have hgw : w.heap.size ≤ g := by have := K1.size; omega
  have hbg : b < g := by omega
  have HGW := hidOf (And.intro hgw hbg)
  have HK1 := hidOf K1
  clear z7 zf HZ K1 hg MK1
  rintro W ⟨Z, E, K⟩
  have TW := hidOf (show Tab W from HT.out.keptL K (by simp; omega))
  have HH : Hid (∀ W' : World, Tab W' → Calls Tryz.prog 29 #[] W' fun e w' => e = .returned (.int .u64 9223372036854775808) ∧ Kept [] W' w') := fun W' k => head_any W' k
  have HZ := hidOf Z
  have HE := hidOf E
  have z7 := cell_of_blk Z (i := 7) rfl
  have HKW := hidOf K
  have hbW := lt_of_blk Z
  have zf := free_of_blk Z
  clear Z E K hb hb0
  clear HF HT
  obtain ⟨H, hH⟩ : ∃ H, H = HN c := ⟨_, rfl⟩
  have HHe := hidOf (show ((H : Nat) : Int) - 1 = c.h - 1 by rw [hH]; omega)
  have hH1 : 1 ≤ (H : Int) ∧ (H : Int) ≤ 100 := by rw [hH]; omega
  rw [← hH] at HZ hA z7 ⊢
  have HHH := hidOf hH
  clear hH hh hgw hbg F3 h0 h1
  go_cut [14] from 14 (fun _ V => FB V b v k (c.h - 1) 9223372036854775808 x s era (some ⟨g, 0, none⟩) H at_ ∧ EB V g A ∧ Kept [b] w V)
  case first =>
    go_region_with (go_at_call 29; refine (HH.out _ (TW.out.kept (Kept.refl _ _).drew)).mono ?_; rintro e w5 ⟨rfl, K5⟩
                    have K6 := K5.undrew
                    have Z5 := HZ.out.kept K6 (by simp)
                    have q7 := cell_of_blk Z5 (i := 7) rfl
                    have q2 := cell_of_blk Z5 (i := 2) rfl
                    have q3 := cell_of_blk Z5 (i := 3) rfl
                    have hf := free_of_blk Z5
                    have KZ := HKW.out.then K6 (by simp)
                    have E5 := HE.out.kept K6 (by simp)
                    have HZ5 := hidOf (And.intro Z5 (And.intro E5 KZ))
                    clear Z5 KZ E5 K5 K6)
    all_goals
      go_wp2
      go_meet
      case rel =>
        obtain ⟨Z5, E5, KZ⟩ := HZ5.out
        have e1 : IntKind.i64.wrap ((H : Int) - 1) = c.h - 1 := by rw [HHe.out, IntKind.wrap_i64]; have := HHe.out; omega
        have ks := ((Kept.refl [b] w5).setCell (p := ⟨b, 2, none⟩) (Or.inl (by simp)) (.int .i64 (c.h - 1))).setCell (p := ⟨b, 3, none⟩) (Or.inl (by simp)) (.int .u64 9223372036854775808)
        rw [e1]
        exact ⟨(Z5.set2 (c.h - 1)).set3 9223372036854775808, E5.kept ks (by simp; have := HGW.out.2; omega), KZ.then ks (by simp)⟩
  case rest =>
    obtain ⟨Z, E, K⟩ := hcut
    have q1 := cell_of_blk Z (i := 1) rfl
    have hf := free_of_blk Z
    have hl := lt_of_blk Z
    have HX := hidOf (And.intro Z (And.intro E K))
    clear Z E K z7 zf HZ HE HKW HH
    go_wp2
    go_end0
    obtain ⟨Z, E, K⟩ := HX.out
    have ks := (Kept.refl [b] wc).setCell (p := ⟨b, 1, none⟩) (Or.inl (by simp)) (ffV 76 b)
    unfold ffV at ks
    rw [← HHH.out]
    exact ⟨rfl, ⟨g, A, HGW.out.1, Z.set1 (ffV 76 b), E.kept ks (by simp; have := HGW.out.2; omega), hA⟩, K.then ks (by simp)⟩
end K
end Go.Proofs.YtgafmklfpiipcaaGreatDoor
namespace Go.Proofs.YtgafmklfpiipcaaGreatDoor
open Go.RowKit (Grown Hid Below)
open Go.Deep
namespace K
set_option maxRecDepth 100000
def isW (x : Int) : Prop := 0 ≤ x ∧ x < 18446744073709551616
/-- A machine's numbers. -/
structure FI (c : Cfg) (f : Fm) : Prop where
  nx : f.nx ≤ 5
  dn : f.dn ≤ HN c
  d : f.d = decide (HN c ≤ f.dn)
  ps : f.ps.length = f.dn
  ss : f.ss.length = f.dn
  ks : f.ks.length = f.dn
  pr : isW f.pr
  x : isW f.x
  s : isW f.s
  era : isW f.era
theorem rd_word {cs : List Int} (h : Wds cs) (x : Int) : isW (rdG cs x) := by
  rw [rdG_eq]; split
  · exact wd_getD h _
  · exact ⟨Int.le_refl _, by decide⟩
theorem fd_word {c : Cfg} {cs : List Int} (h : Wds cs) (i f : Int) : isW (fd c cs i f) := rd_word h _
theorem pl_word {x : Int} (h : isW x) : isW (plainV x) := by unfold isW at *; unfold plainV; omega
theorem wds_set {cs : List Int} (h : Wds cs) (n : Nat) {v : Int} (hv : isW v) : Wds (cs.set n v) := by
  intro x hx
  rcases List.mem_or_eq_of_mem_set hx with hx | rfl
  · exact h x hx
  · exact hv
theorem wds_clV {cs : List Int} (h : Wds cs) (k x old : Int) {v : Int} (hk : ¬ k = 4) (hv : isW v) : Wds (clV cs k x old v) := by
  unfold Go.Proofs.YtgafmklfpiipcaaGreatDoor.clV; split
  · refine wds_set h _ ?_
    unfold bhV; split
    · exact hv
    · split
      · split
        · exact hv
        · exact wd_getD h _
      · first | (rw [if_neg hk]; exact wd_getD h _) | exact wd_getD h _
  · exact h
theorem fC_wds {c : Cfg} {cs : List Int} {g : Gs} {f : Fm} (h : Wds cs) (hf : FI c f) : Wds (fC c cs g f) := by
  unfold fC
  split
  · exact h
  · split
    · exact wds_clV h _ _ _ (by decide) hf.era
    · split
      · exact wds_clV h _ _ _ (by decide) (pl_word hf.s)
      · exact h
theorem FI.of_anew {c : Cfg} {f : Fm} (R : Rt c) (a : Int) : FI c (f.anew a) := by
  have h0 := R.h0
  have hh := HN_eq R
  exact ⟨by show 0 ≤ 5; omega, Nat.zero_le _, by show false = decide (HN c ≤ 0); rw [decide_eq_false (by omega)], rfl, rfl, rfl, by show isW 9223372036854775808; unfold isW; omega, by show isW 0; unfold isW; omega, by show isW 0; unfold isW; omega, by show isW 0; unfold isW; omega⟩
theorem FI.of_ended {c : Cfg} {f : Fm} (R : Rt c) (h : FI c f) (hd : f.d = false) (a su ke : Int) : FI c (f.ended c a su ke) := by
  have hh := HN_eq R
  have hdn : f.dn < HN c := by
    have z := h.d; rw [hd] at z
    have := of_decide_eq_false z.symm; omega
  refine ⟨by show 0 ≤ 5; omega, by show f.dn + 1 ≤ HN c; omega, ?_, by show (f.ps ++ [f.pr]).length = f.dn + 1; simp [h.ps], by show (f.ss ++ [su]).length = f.dn + 1; simp [h.ss], by show (f.ks ++ [ke]).length = f.dn + 1; simp [h.ks], h.pr, h.x, h.s, h.era⟩
  show decide (c.h ≤ ((f.dn + 1 : Nat) : Int)) = decide (HN c ≤ f.dn + 1)
  rw [← hh]; congr 1; simp only [eq_iff_iff]; omega
theorem FI.lt {c : Cfg} {f : Fm} (h : FI c f) (hd : f.d = false) : f.dn < HN c := by
  have z := h.d; rw [hd] at z
  have := of_decide_eq_false z.symm; omega
theorem FI.step {c : Cfg} {cs : List Int} {f : Fm} (R : Rt c) (h : FI c f) (hw : Wds cs) (cnt : Int) (g : Gs) : FI c (fF c cs cnt g f) := by
  by_cases hd : f.d = true
  · rw [(fF_done (c := c) (cs := cs) (cnt := cnt) (g := g) hd).1]; exact h
  · have hd' : f.d = false := by simpa using hd
    rcases (by have := h.nx; omega : f.nx = 0 ∨ f.nx = 1 ∨ f.nx = 2 ∨ f.nx = 3 ∨ f.nx = 4 ∨ f.nx = 5) with e | e | e | e | e | e
    · have ef : fF c cs cnt g f = if mkB (rdW c cs f) = true then f.anew (atF c cnt f) else if vlB (rdW c cs f) = false then f.ended c (atF c cnt f) 0 0 else { f with x := rdW c cs f, nx := 1, at_ := atF c cnt f } := by unfold fF; rw [if_neg hd, e]; rfl
      rw [ef]
      split
      · exact FI.of_anew R _
      · split
        · exact h.of_ended R hd' _ _ _
        · exact ⟨by show 1 ≤ 5; omega, h.dn, h.d, h.ps, h.ss, h.ks, h.pr, fd_word hw _ _, h.s, h.era⟩
    · have ef : fF c cs cnt g f = { f with era := rdG cs 0, nx := if rdG cs 0 = g.l then 3 else 2 } := by unfold fF; rw [if_neg hd, e]; rfl
      rw [ef]
      exact ⟨by show (if rdG cs 0 = g.l then 3 else 2) ≤ 5; split <;> omega, h.dn, h.d, h.ps, h.ss, h.ks, h.pr, h.x, h.s, rd_word hw _⟩
    · have ef : fF c cs cnt g f = if g.u < c.s then { f with nx := 0 } else f.anew f.at_ := by unfold fF; rw [if_neg hd, e]; rfl
      rw [ef]
      split
      · exact ⟨by show 0 ≤ 5; omega, h.dn, h.d, h.ps, h.ss, h.ks, h.pr, h.x, h.s, h.era⟩
      · exact FI.of_anew R _
    · have ef : fF c cs cnt g f = { f with s := fd c cs (ixV f.x) (6 + lv c f), nx := if mkB (fd c cs (ixV f.x) (6 + lv c f)) = true then 4 else 5 } := by unfold fF; rw [if_neg hd, e]; rfl
      rw [ef]
      exact ⟨by show (if mkB (fd c cs (ixV f.x) (6 + lv c f)) = true then 4 else 5) ≤ 5; split <;> omega, h.dn, h.d, h.ps, h.ss, h.ks, h.pr, h.x, fd_word hw _ _, h.era⟩
    · have ef : fF c cs cnt g f = if (acV cs 3 (clV' c (ixV f.pr) (6 + lv c f)) (plainV f.pr) f.x (plainV f.s)).d = true then { f with nx := 0 } else f.anew f.at_ := by unfold fF; rw [if_neg hd, e]; rfl
      rw [ef]
      split
      · exact ⟨by show 0 ≤ 5; omega, h.dn, h.d, h.ps, h.ss, h.ks, h.pr, h.x, h.s, h.era⟩
      · exact FI.of_anew R _
    · have ef : fF c cs cnt g f = if f.k ≤ fd c cs (ixV f.x) 1 then f.ended c f.at_ f.x (fd c cs (ixV f.x) 1) else { f with pr := f.x, nx := 0 } := by unfold fF; rw [if_neg hd, e]; rfl
      rw [ef]
      split
      · exact h.of_ended R hd' _ _ _
      · exact ⟨by show 0 ≤ 5; omega, h.dn, h.d, h.ps, h.ss, h.ks, h.x, h.x, h.s, h.era⟩
/-- How many accesses there were behind a step; the last one. -/
def fN (cnt : Int) (f : Fm) : Int := if f.d = true then cnt else cnt + 1
def fA (c : Cfg) (cs : List Int) (g : Gs) (f : Fm) (a : Acc) : Acc :=
  if f.d = true then a else
  match f.nx with
  | 0 => acV cs 1 (clV' c (ixV f.pr) (6 + lv c f)) (plainV f.pr) 0 0
  | 1 => acV cs 1 0 0 0 0
  | 2 => acV cs 2 (rsV c g.t (pubN c g)) 0 0 f.era
  | 3 => acV cs 1 (clV' c (ixV f.x) (6 + lv c f)) (plainV f.x) 0 0
  | 4 => acV cs 3 (clV' c (ixV f.pr) (6 + lv c f)) (plainV f.pr) f.x (plainV f.s)
  | _ => acV cs 1 (clV' c (ixV f.x) 1) (plainV f.x) 0 0
theorem ld_o (cs : List Int) (x via : Int) : (acV cs 1 x via 0 0).o = rdG cs x := by unfold rdG acV; split <;> rfl
/-- What changes at most: the blocks of bs, rows of 'how levels ended' that were made behind base. -/
def FK (base : Nat → Prop) (bs : List Nat) (w w' : World) : Prop := ∃ l, Kept l w w' ∧ ∀ z ∈ l, z ∈ bs ∨ w.heap.size ≤ z ∨ (base z ∧ ∃ A, EB w z A)
theorem FK.of {base : Nat → Prop} {bs : List Nat} {w w' : World} (k : Kept bs w w') : FK base bs w w' := ⟨bs, k, fun _ h => Or.inl h⟩
theorem FK.of_row {base : Nat → Prop} {bs : List Nat} {w w' : World} {b g : Nat} {A : Array Value} (k : Kept [b, g] w w') (hb : b ∈ bs) (h : EB w g A) (hg : base g) : FK base bs w w' :=
  ⟨[b, g], k, fun z hz => by
    simp at hz
    rcases hz with rfl | rfl
    · exact Or.inl hb
    · exact Or.inr (Or.inr ⟨hg, A, h⟩)⟩
theorem FK.then {base : Nat → Prop} {bs : List Nat} {a b c : World} (h : FK base bs a b) (k : FK base bs b c) : FK base bs a c := by
  obtain ⟨l1, k1, c1⟩ := h
  obtain ⟨l2, k2, c2⟩ := k
  refine ⟨l1 ++ l2, (k1.weaken (m := l1 ++ l2) (fun x hx => Or.inl (by simp [hx]))).then k2 (fun x hx => Or.inl (by simp [hx])), fun z hz => ?_⟩
  rcases List.mem_append.1 hz with hz | hz
  · exact c1 z hz
  · rcases c2 z hz with q | q | ⟨q1, A, q2⟩
    · exact Or.inl q
    · exact Or.inr (Or.inl (by have := k1.size; omega))
    · by_cases hl : z < a.heap.size
      · by_cases hm : z ∈ l1
        · exact c1 z hm
        · refine Or.inr (Or.inr ⟨q1, A, ?_⟩)
          have e := k1.block z hl hm
          unfold EB RW at q2 ⊢
          rw [← e]; exact q2
      · exact Or.inr (Or.inl (by omega))
theorem FK.blk {base : Nat → Prop} {bs : List Nat} {w w' : World} (h : FK base bs w w') {T : TypeId} {b : Nat} {A : Array Value} (hb : w.heap[b]? = some (.cells A T (0, 0))) (hT : T ≠ 166) (hn : b ∉ bs) : w'.heap[b]? = some (.cells A T (0, 0)) := by
  obtain ⟨l, k, c⟩ := h
  refine k.blk hb fun hl => ?_
  rcases c b hl with q | q | ⟨_, B, q⟩
  · exact hn q
  · have := lt_of_blk hb; omega
  · unfold EB RW at q; rw [hb] at q; simp at q; exact hT q.2
theorem FK.kept {base : Nat → Prop} {bs : List Nat} {w0 w w' : World} (h : FK base bs w w') (k : Kept [] w0 w) (h0 : ∀ z, base z → w0.heap.size ≤ z) (hb : ∀ x ∈ bs, w0.heap.size ≤ x) : Kept [] w0 w' := by
  obtain ⟨l, kk, c⟩ := h
  refine k.then kk fun x hx => Or.inr ?_
  rcases c x hx with q | q | ⟨q, _⟩
  · exact hb x q
  · have := k.size; omega
  · exact h0 x q
/-- What comes next. -/
def phF (f : Fm) (b : Nat) : Value := if f.d = true then .nilFunc else match f.nx with
  | 0 => ffV 76 b
  | 1 => ffV 98 b
  | 2 => ffV 106 b
  | 3 => ffV 105 b
  | 4 => ffV 110 b
  | _ => ffV 111 b
/-- The row holds what was noted. -/
def Note (c : Cfg) (f : Fm) (A : Array Value) : Prop := ∀ t, t < f.dn → A[(HN c - 1 - t) * 3]? = some (.int .u64 (f.ps.getD t 0)) ∧ A[(HN c - 1 - t) * 3 + 1]? = some (.int .u64 (f.ss.getD t 0)) ∧ A[(HN c - 1 - t) * 3 + 2]? = some (.int .u64 (f.ks.getD t 0))
/-- The block stands for the machine: begun, or new. -/
structure FS1 (base : Nat → Prop) (w : World) (b : Nat) (c : Cfg) (f : Fm) (x s era lw : Int) (g : Nat) (A : Array Value) : Prop where
  fb : FB w b (phF f b) f.k lw f.pr x s era (some ⟨g, 0, none⟩) (HN c) f.at_
  eb : EB w g A
  hA : A.size = HN c * 3
  hg : base g
  nt : Note c f A
  lw : f.d = false → lw = lv c f
  hx : f.d = false → 1 ≤ f.nx → f.nx ≠ 2 → x = f.x
  hs : f.d = false → f.nx = 4 → s = f.s
  he : f.d = false → f.nx = 2 → era = f.era
structure FS0 (w : World) (b : Nat) (f : Fm) : Prop where
  fb : FB w b (ffV 46 b) f.k 0 0 0 0 0 none 0 0
  e : f = f.anew 0
def FS (base : Nat → Prop) (w : World) (b : Nat) (c : Cfg) (f : Fm) : Prop := 0 < b ∧ (FS0 w b f ∨ ∃ x s era lw g A, FS1 base w b c f x s era lw g A)
theorem FS.kept {base : Nat → Prop} {w w' : World} {b : Nat} {c : Cfg} {f : Fm} {l : List Nat} (h : FS base w b c f) (k : Kept l w w') (hb : b ∉ l) (hl : ∀ g, base g → (∃ A, EB w g A) → g ∉ l) : FS base w' b c f := by
  obtain ⟨p, h | ⟨x, s, era, lw, g, A, h⟩⟩ := h
  · exact ⟨p, Or.inl ⟨h.fb.kept k hb, h.e⟩⟩
  · exact ⟨p, Or.inr ⟨x, s, era, lw, g, A, h.fb.kept k hb, RW.kept h.eb k (hl g h.hg ⟨A, h.eb⟩), h.hA, h.hg, h.nt, h.lw, h.hx, h.hs, h.he⟩⟩
theorem FS.new {base : Nat → Prop} {w w' : World} {b : Nat} {c : Cfg} {f : Fm} (h : FS base w b c f) (k : Kept [] w w') : FS base w' b c f := h.kept k (by simp) (by simp)
end K
end Go.Proofs.YtgafmklfpiipcaaGreatDoor
namespace Go.Proofs.YtgafmklfpiipcaaGreatDoor
open Go.RowKit (Grown Hid Below)
open Go.Deep
namespace K
set_option maxRecDepth 100000
/-- How a level ends: the row behind it, and what comes next. -/
def btW (A : Array Value) (i : Nat) (x y z : Int) : Array Value := ((A.setIfInBounds (i * 3) (.int .u64 x)).setIfInBounds (i * 3 + 1) (.int .u64 y)).setIfInBounds (i * 3 + 2) (.int .u64 z)
theorem bt_set {w : World} {g : Nat} {A : Array Value} (h : EB w g A) (i : Nat) (x y z : Int) : EB (((w.setCell ⟨g, i * 3, none⟩ (.int .u64 x)).setCell ⟨g, i * 3 + 1, none⟩ (.int .u64 y)).setCell ⟨g, i * 3 + 2, none⟩ (.int .u64 z)) g (btW A i x y z) := blk_set (blk_set (blk_set h _ _) _ _) _ _
set_option maxHeartbeats 4000000 in
theorem fended_any (b g : Nat) (v : Value) (k pr x s era : Int) (lv n : Nat) (at_ su ke : Int) (A : Array Value) (w : World) (hF : FB w b v k lv pr x s era (some ⟨g, 0, none⟩) n at_) (hE : EB w g A) (hA : A.size = n * 3) (hn : n ≤ 100) (hl : lv < n) (hbg : ¬ b = g) :
    Calls Tryz.prog 97 #[.pointer (some ⟨b, 0, none⟩), .int .u64 su, .int .u64 ke] w fun e w' => e = .returned (.tuple #[]) ∧ FB w' b (if lv = 0 then .nilFunc else ffV 76 b) k (if lv = 0 then 0 else (lv : Int) - 1) pr x s era (some ⟨g, 0, none⟩) n at_ ∧ EB w' g (btW A lv pr su ke) ∧ Kept [b, g] w w' := by
  have q7 := cell_of_blk hF (i := 7) rfl
  have q2 := cell_of_blk hF (i := 2) rfl
  have q3 := cell_of_blk hF (i := 3) rfl
  have g0 := cell_of_blk hE (i := lv * 3) (v := A[lv * 3]'(by omega)) (by simp)
  have g1 := cell_of_blk hE (i := lv * 3 + 1) (v := A[lv * 3 + 1]'(by omega)) (by simp)
  have g2 := cell_of_blk hE (i := lv * 3 + 2) (v := A[lv * 3 + 2]'(by omega)) (by simp)
  have hlz : (lv : Int) < n := by omega
  have gf := free_of_blk hE
  have gl := lt_of_blk hE
  have bl := lt_of_blk hF
  have HX := hidOf (And.intro hF hE)
  clear hF hE
  have FIN : Hid (∀ W : World, W = (((w.setCell ⟨g, lv * 3, none⟩ (.int .u64 pr)).setCell ⟨g, lv * 3 + 1, none⟩ (.int .u64 su)).setCell ⟨g, lv * 3 + 2, none⟩ (.int .u64 ke)) → FB W.drew b v k lv pr x s era (some ⟨g, 0, none⟩) n at_ ∧ EB W.drew g (btW A lv pr su ke) ∧ Kept [b, g] w W.drew) := by
    rintro W rfl
    have ks : Kept [g] w (((w.setCell ⟨g, lv * 3, none⟩ (.int .u64 pr)).setCell ⟨g, lv * 3 + 1, none⟩ (.int .u64 su)).setCell ⟨g, lv * 3 + 2, none⟩ (.int .u64 ke)).drew := ((((Kept.refl [g] w).setCell (Or.inl (by simp)) _).setCell (Or.inl (by simp)) _).setCell (Or.inl (by simp)) _).drew
    exact ⟨HX.out.1.kept ks (by simp; exact hbg), (bt_set HX.out.2 lv pr su ke).drew, ks.weaken (by simp)⟩
  by_cases h0 : lv = 0
  · subst h0
    go_enter Tryz.func97, Tryz.ntmps97
    go_wp2
    go_region
    go_upto_region 1 with (fail)
    refine gen_world (fun W => FB W b v k 0 pr x s era (some ⟨g, 0, none⟩) n at_ ∧ EB W g (btW A 0 pr su ke) ∧ Kept [b, g] w W) (FIN.out _ rfl) ?_
    rintro W ⟨Z, E, K⟩
    have p1 := cell_of_blk Z (i := 1) rfl
    have p2 := cell_of_blk Z (i := 2) rfl
    have pf := free_of_blk Z
    have pl := lt_of_blk Z
    have HZ := hidOf (And.intro Z (And.intro E K))
    clear Z E K FIN HX q7 q2 q3 g0 g1 g2 gf gl bl
    go_wp2
    obtain ⟨Z, E, K⟩ := HZ.out
    have ks := (Kept.refl [b] W).setCell (p := ⟨b, 1, none⟩) (Or.inl (by simp)) .nilFunc
    exact bodyPost_ret (v := .tuple #[]) (by simp [results, Tryz.results97, go_sem]) rfl ⟨rfl, Z.set1 .nilFunc, E.kept ks (by simp; exact fun e => hbg e.symm), K.then ks (by simp)⟩
  · go_enter Tryz.func97, Tryz.ntmps97
    go_wp2
    go_region
    go_upto_region 1 with (fail)
    refine gen_world (fun W => FB W b v k lv pr x s era (some ⟨g, 0, none⟩) n at_ ∧ EB W g (btW A lv pr su ke) ∧ Kept [b, g] w W) (FIN.out _ rfl) ?_
    rintro W ⟨Z, E, K⟩
    have p1 := cell_of_blk Z (i := 1) rfl
    have p2 := cell_of_blk Z (i := 2) rfl
    have pf := free_of_blk Z
    have pl := lt_of_blk Z
    have HZ := hidOf (And.intro Z (And.intro E K))
    clear Z E K FIN HX q7 q2 q3 g0 g1 g2 gf gl bl
    go_wp2
    go_end0
    obtain ⟨Z, E, K⟩ := HZ.out
    have ks := ((Kept.refl [b] W).setCell (p := ⟨b, 2, none⟩) (Or.inl (by simp)) (.int .i64 ((lv : Int) - 1))).setCell (p := ⟨b, 1, none⟩) (Or.inl (by simp)) (ffV 76 b)
    unfold ffV at ks
    exact ⟨rfl, (Z.set2 ((lv : Int) - 1)).set1 (ffV 76 b), E.kept ks (by simp; exact fun e => hbg e.symm), K.then ks (by simp)⟩
end K
end Go.Proofs.YtgafmklfpiipcaaGreatDoor
namespace Go.Proofs.YtgafmklfpiipcaaGreatDoor
open Go.RowKit (Grown Hid Below)
open Go.Deep
namespace K
set_option maxRecDepth 100000
theorem blk_ne {T1 T2 : TypeId} {w : World} {b c : Nat} {A B : Array Value} (h1 : w.heap[b]? = some (.cells A T1 (0, 0))) (h2 : w.heap[c]? = some (.cells B T2 (0, 0))) (hT : T1 ≠ T2) : ¬ b = c := fun e => by
  rw [e, h2] at h1; simp at h1; exact hT h1.2.symm
theorem lv_nat {c : Cfg} {f : Fm} (R : Rt c) (fi : FI c f) (hd : f.d = false) : lv c f = ((HN c - 1 - f.dn : Nat) : Int) := by
  have := fi.lt hd; have := HN_eq R; unfold lv; omega
theorem getD_app_lt {α : Type} (l : List α) (x d : α) {t : Nat} (h : t < l.length) : (l ++ [x]).getD t d = l.getD t d := by
  simp [List.getD_eq_getElem?_getD, List.getElem?_append_left h]
theorem getD_app_eq {α : Type} (l : List α) (x d : α) {t : Nat} (h : t = l.length) : (l ++ [x]).getD t d = x := by
  subst h; simp [List.getD_eq_getElem?_getD]
theorem bt_get {A : Array Value} {n i j : Nat} (hA : A.size = n * 3) (hi : i < n) (x y z : Int) : (j < 3 → (btW A i x y z)[i * 3 + j]? = some (.int .u64 (if j = 0 then x else if j = 1 then y else z))) ∧ ∀ q, ¬ (i * 3 ≤ q ∧ q < i * 3 + 3) → (btW A i x y z)[q]? = A[q]? := by
  refine ⟨fun hj => ?_, fun q hq => ?_⟩
  · unfold btW
    rcases (by omega : j = 0 ∨ j = 1 ∨ j = 2) with e | e | e <;> subst e
    · simp [Array.getElem?_setIfInBounds]; omega
    · simp [Array.getElem?_setIfInBounds]; omega
    · simp [Array.getElem?_setIfInBounds]; omega
  · unfold btW
    rw [Array.getElem?_setIfInBounds_ne (by omega), Array.getElem?_setIfInBounds_ne (by omega), Array.getElem?_setIfInBounds_ne (by omega)]
theorem bt_size (A : Array Value) (i : Nat) (x y z : Int) : (btW A i x y z).size = A.size := by unfold btW; simp
theorem Note.ended {c : Cfg} {f : Fm} {A : Array Value} (fi : FI c f) (hd : f.d = false) (hA : A.size = HN c * 3) (h : Note c f A) (a su ke : Int) : Note c (f.ended c a su ke) (btW A (HN c - 1 - f.dn) f.pr su ke) := by
  have hlt := fi.lt hd
  have g := bt_get (j := 0) (i := HN c - 1 - f.dn) hA (by omega) f.pr su ke
  have g1 := bt_get (j := 1) (i := HN c - 1 - f.dn) hA (by omega) f.pr su ke
  have g2 := bt_get (j := 2) (i := HN c - 1 - f.dn) hA (by omega) f.pr su ke
  intro t ht
  have ht' : t < f.dn + 1 := ht
  show (btW A (HN c - 1 - f.dn) f.pr su ke)[(HN c - 1 - t) * 3]? = some (.int .u64 ((f.ps ++ [f.pr]).getD t 0)) ∧ (btW A (HN c - 1 - f.dn) f.pr su ke)[(HN c - 1 - t) * 3 + 1]? = some (.int .u64 ((f.ss ++ [su]).getD t 0)) ∧ (btW A (HN c - 1 - f.dn) f.pr su ke)[(HN c - 1 - t) * 3 + 2]? = some (.int .u64 ((f.ks ++ [ke]).getD t 0))
  by_cases e : t = f.dn
  · subst e
    rw [getD_app_eq _ _ _ fi.ps.symm, getD_app_eq _ _ _ fi.ss.symm, getD_app_eq _ _ _ fi.ks.symm]
    exact ⟨g.1 (by omega), g1.1 (by omega), g2.1 (by omega)⟩
  · have hlt2 : t < f.dn := by omega
    rw [getD_app_lt _ _ _ (by rw [fi.ps]; exact hlt2), getD_app_lt _ _ _ (by rw [fi.ss]; exact hlt2), getD_app_lt _ _ _ (by rw [fi.ks]; exact hlt2), g.2 _ (by omega), g.2 _ (by omega), g.2 _ (by omega)]
    exact h t hlt2
theorem fs_anew {base : Nat → Prop} {w : World} {b g : Nat} {c : Cfg} {f : Fm} {a x s era : Int} {A : Array Value} (hb : 0 < b) (hF : FB w b (ffV 76 b) f.k (c.h - 1) 9223372036854775808 x s era (some ⟨g, 0, none⟩) (HN c) a) (hE : EB w g A) (hA : A.size = HN c * 3) (hg : base g) : FS base w b c (f.anew a) :=
  ⟨hb, Or.inr ⟨x, s, era, c.h - 1, g, A, hF, hE, hA, hg, fun t ht => absurd ht (Nat.not_lt_zero _), fun _ => by show c.h - 1 = c.h - 1 - (0 : Nat); simp, fun _ h => absurd h (by show ¬ 1 ≤ 0; omega), fun _ h => absurd h (by show ¬ 0 = 4; omega), fun _ h => absurd h (by show ¬ 0 = 2; omega)⟩⟩
theorem fs_ended {base : Nat → Prop} {w : World} {b g L : Nat} {c : Cfg} {f : Fm} {a x s era su ke : Int} {A : Array Value} (R : Rt c) (fi : FI c f) (hd : f.d = false) (hb : 0 < b) (hL : L = HN c - 1 - f.dn) (hF : FB w b (if L = 0 then .nilFunc else ffV 76 b) f.k (if L = 0 then 0 else (L : Int) - 1) f.pr x s era (some ⟨g, 0, none⟩) (HN c) a) (hE : EB w g (btW A L f.pr su ke)) (hA : A.size = HN c * 3) (hg : base g) (hn : Note c f A) : FS base w b c (f.ended c a su ke) := by
  have hh := HN_eq R
  have hlt := fi.lt hd
  subst hL
  refine ⟨hb, Or.inr ⟨x, s, era, (if HN c - 1 - f.dn = 0 then 0 else ((HN c - 1 - f.dn : Nat) : Int) - 1), g, btW A (HN c - 1 - f.dn) f.pr su ke, ?_, hE, by rw [bt_size]; exact hA, hg, hn.ended fi hd hA a su ke, ?_, fun _ h => absurd h (by show ¬ 1 ≤ 0; omega), fun _ h => absurd h (by show ¬ 0 = 4; omega), fun _ h => absurd h (by show ¬ 0 = 2; omega)⟩⟩
  · have e : phF (f.ended c a su ke) b = if HN c - 1 - f.dn = 0 then .nilFunc else ffV 76 b := by
      show (if decide (c.h ≤ ((f.dn + 1 : Nat) : Int)) = true then Value.nilFunc else ffV 76 b) = _
      by_cases z : HN c - 1 - f.dn = 0
      · rw [if_pos z, if_pos (decide_eq_true (by omega))]
      · rw [if_neg z, if_neg (by rw [decide_eq_true_eq]; omega)]
    rw [e]; exact hF
  · intro h
    have h' : decide (c.h ≤ ((f.dn + 1 : Nat) : Int)) = false := h
    have := of_decide_eq_false h'
    show (if HN c - 1 - f.dn = 0 then 0 else ((HN c - 1 - f.dn : Nat) : Int) - 1) = c.h - 1 - ((f.dn + 1 : Nat) : Int)
    rw [if_neg (by omega)]; omega
/-- A find that has begun, at a step. -/
structure AtS (base : Nat → Prop) (w : World) (b m p r : Nat) (c : Cfg) (f : Fm) (cs : List Int) (cnt : Int) (a : Acc) : Prop where
  R : Rt c
  fi : FI c f
  hd : f.d = false
  mm : Mm w m p r c cs cnt a
  tb : Tab w
  wd : Wds cs
  b0 : 0 < b
  c0 : 0 ≤ cnt
  c1 : cnt < 4611686018427387904
  bs : ∀ z, w.heap.size ≤ z → base z
theorem clk_load (cs : List Int) (x : Int) : clV cs 1 x 0 0 = cs := clV_load cs x 0 0
set_option maxHeartbeats 4000000 in
theorem fread_any (base : Nat → Prop) (b m p r g : Nat) (v : Value) (c : Cfg) (f : Fm) (cs : List Int) (cnt : Int) (a : Acc) (x s era : Int) (A : Array Value) (w : World) (S : AtS base w b m p r c f cs cnt a) (hF : FB w b v f.k (lv c f) f.pr x s era (some ⟨g, 0, none⟩) (HN c) f.at_) (hE : EB w g A) (hA : A.size = HN c * 3) (hg : base g) (hn : Note c f A) (gb : Nat) (V : Value) :
    Calls Tryz.prog 76 #[.pointer (some ⟨b, 0, none⟩), .pointer (some ⟨m, 0, none⟩), V] w fun e w' => e = .returned (.tuple #[]) ∧ FS base w' b c (if mkB (rdW c cs f) = true then f.anew (atF c cnt f) else if vlB (rdW c cs f) = false then f.ended c (atF c cnt f) 0 0 else { f with x := rdW c cs f, nx := 1, at_ := atF c cnt f }) ∧ Mm w' m p r c cs (cnt + 1) (acV cs 1 (clV' c (ixV f.pr) (6 + lv c f)) (plainV f.pr) 0 0) ∧ FK base [b, gb, p, r] w w' := by
  have hlt := S.fi.lt S.hd
  have hh := HN_eq S.R
  have h1 := S.R.h1
  have eL := lv_nat S.R S.fi S.hd
  obtain ⟨L, hL⟩ : ∃ L, L = HN c - 1 - f.dn := ⟨_, rfl⟩
  rw [← hL] at eL
  obtain ⟨n1, n2, n3⟩ := hF.nm S.mm
  have bgn : ¬ b = g := blk_ne (T1 := 113) (T2 := 166) hF hE (by decide)
  have gnn : ¬ g = m ∧ ¬ g = p ∧ ¬ g = r := ⟨blk_ne (T1 := 166) hE S.mm.st (by decide), blk_ne (T1 := 166) hE S.mm.bk.st (by decide), blk_ne (T1 := 166) hE S.mm.bk.row (by decide)⟩
  rw [eL] at hF
  have LD := hidOf (fun (W : World) (k : Kept [] w W) => (mload_any m p r c cs cnt a f.pr (6 + L) W (S.mm.new k) (S.tb.kept k) S.fi.pr.1 S.fi.pr.2 S.c0 S.c1).mono fun _ _ hh => And.intro hh.1 (And.intro hh.2.1 ((k.weaken (m := [p, r]) (by simp)).trans hh.2.2)))
  have NX := hidOf (fun (W : World) (k : Kept [] w W) => fnext_any b v f.k L f.pr x s era (some ⟨g, 0, none⟩) (HN c) f.at_ W (hF.kept k (by simp)) (by omega) (by omega))
  have eo : (acV cs 1 (clV' c (ixV f.pr) (6 + L)) (plainV f.pr) 0 0).o = rdW c cs f := by rw [ld_o, ← eL]; rfl
  rw [clk_load, eo] at LD
  have wW : isW (rdW c cs f) := fd_word (c := c) S.wd (ixV f.pr) (6 + lv c f)
  have eat : atF c cnt f = if L = 0 then cnt + 1 else f.at_ := by
    unfold atF
    by_cases z : L = 0
    · rw [if_pos (by omega), if_pos z]
    · rw [if_neg (by omega), if_neg z]
  rw [eL]
  obtain ⟨X, hX⟩ : ∃ X, X = rdW c cs f := ⟨_, rfl⟩
  obtain ⟨AT1, hAT⟩ : ∃ z, z = atF c cnt f := ⟨_, rfl⟩
  rw [← hX] at LD wW ⊢
  rw [← hAT] at eat ⊢
  clear hX hAT eo
  have HEA := hidOf (fun (w' : World) (g3 : Nat) (A3 : Array Value) (hg3 : base g3) (F3 : FB w' b (ffV 76 b) f.k (c.h - 1) 9223372036854775808 x s era (some ⟨g3, 0, none⟩) (HN c) AT1) (E3 : EB w' g3 A3) (h3 : A3.size = HN c * 3) => fs_anew (f := f) S.b0 F3 E3 h3 hg3)
  have HEE := hidOf (fun (w' : World) (F3 : FB w' b (if L = 0 then .nilFunc else ffV 76 b) f.k (if L = 0 then 0 else (L : Int) - 1) f.pr x s era (some ⟨g, 0, none⟩) (HN c) AT1) (E3 : EB w' g (btW A L f.pr 0 0)) => fs_ended (base := base) S.R S.fi S.hd S.b0 hL F3 E3 hA hg hn)
  have HEC := hidOf (fun (w' : World) (F3 : FB w' b (ffV 98 b) f.k L f.pr X s era (some ⟨g, 0, none⟩) (HN c) AT1) (E3 : EB w' g A) => (show FS base w' b c { f with x := X, nx := 1, at_ := AT1 } from ⟨S.b0, Or.inr ⟨X, s, era, L, g, A, by unfold phF; rw [show ({ f with x := X, nx := 1, at_ := AT1 } : Fm).d = false from S.hd]; exact F3, E3, hA, hg, hn, fun _ => eL.symm, fun _ _ _ => rfl, fun _ h => absurd h (by show ¬ 1 = 4; omega), fun _ h => absurd h (by show ¬ 1 = 2; omega)⟩⟩))
  generalize acV cs 1 (clV' c (ixV f.pr) (6 + L)) (plainV f.pr) 0 0 = AC at LD ⊢
  generalize hQ : (if mkB X = true then f.anew AT1 else if vlB X = false then f.ended c AT1 0 0 else { f with x := X, nx := 1, at_ := AT1 }) = Q
  have HQ1 : Hid (mkB X = true → f.anew AT1 = Q) := hidOf (fun h => by rw [← hQ, if_pos h])
  have HQ2 : Hid (mkB X = false → vlB X = false → f.ended c AT1 0 0 = Q) := hidOf (fun h h' => by rw [← hQ, if_neg (by rw [h]; decide), if_pos h'])
  have HQ3 : Hid (mkB X = false → vlB X = true → ({ f with x := X, nx := 1, at_ := AT1 } : Fm) = Q) := hidOf (fun h h' => by rw [← hQ, if_neg (by rw [h]; decide), if_neg (by rw [h']; decide)])
  clear hQ
  generalize f.anew AT1 = Q1 at HEA HQ1
  generalize f.ended c AT1 0 0 = Q2 at HEE HQ2
  generalize ({ f with x := X, nx := 1, at_ := AT1 } : Fm) = Q3 at HEC HQ3
  generalize f.pr = P at hF LD NX HEE HEC
  generalize f.k = K at hF NX HEA HEE HEC
  generalize f.at_ = AT at hF NX eat
  have HC := hidOf (And.intro S.c0 S.c1)
  have HB := hidOf (And.intro S.b0 S.bs)
  have HT := hidOf S.tb
  have HH := hidOf (show 1 ≤ c.h ∧ c.h ≤ 100 ∧ HN c ≤ 100 ∧ L < HN c by have := S.R.h0; omega)
  have HN3 := hidOf (And.intro (And.intro n1 (And.intro n2 n3)) (And.intro bgn gnn))
  have HBG := hidOf (And.intro hg hA)
  have HFE := hidOf (And.intro hF hE)
  have HM := hidOf S.mm
  clear S eL hL hlt hh h1 n1 n2 n3 bgn gnn hg hA hn hE
  have q3 := cell_of_blk hF (i := 3) rfl
  clear hF
  have HS0 : Hid (∀ W' : World, Kept [p, r] w W' → W'.cell? ⟨b, 3, none⟩ = some (.int .u64 P)) := by
    intro W' k
    have := HN3.out
    exact cell_of_blk (k.blk HFE.out.1 (by simp; omega)) (i := 3) rfl
  go_enter Tryz.func76, Tryz.ntmps76
  go_wp2_with fail
  go_region_held3 (fun W' => W'.cell? ⟨b, 3, none⟩ = some (.int .u64 P))
    (first | exact HS0.out _ (by assumption) | exact HS0.out _ (Kept.weaken (m := [p, r]) (by assumption) (by simp)) | exact HS0.out _ (Kept.refl _ _).drew | exact HS0.out _ (Kept.refl _ _))
    (first
      | (go_at_call 94; refine (NX.out _ (by first | assumption | exact (Kept.refl _ _).drew)).mono ?_; rintro e w5 ⟨rfl, rfl⟩)
      | (go_at_call 28; refine (LD.out _ (by first | assumption | exact (Kept.refl _ _).drew)).mono ?_; rintro e w7 ⟨rfl, M7, K7⟩))
  have M7' := hidOf M7
  have Z7 := HFE.out.1.kept K7 (by have := HN3.out; simp; omega)
  have E7 := HFE.out.2.kept K7 (by have := HN3.out; simp; omega)
  have T7 := HT.out.mm HM.out K7
  have HX7 := hidOf (And.intro Z7 (And.intro E7 (And.intro T7 K7)))
  clear M7 Z7 E7 T7 K7 LD NX HS0 q3 HFE HM HT
  go_upto_region 1 with (fail)
  refine gen_world (fun W => (FB W b v K L P x s era (some ⟨g, 0, none⟩) (HN c) AT ∧ EB W g A ∧ Tab W ∧ Kept [p, r] w W) ∧ Mm W m p r c cs (cnt + 1) AC) ⟨HX7.out, M7'.out⟩ ?_
  clear HX7 M7'
  rintro W ⟨⟨Z, E, T, KK⟩, M⟩
  have z2 := cell_of_blk Z (i := 2) rfl
  have z8 := cell_of_blk Z (i := 8) rfl
  have zf := free_of_blk Z
  have zl := lt_of_blk Z
  have HZ := hidOf (And.intro Z (And.intro E (And.intro T (And.intro KK M))))
  clear Z E T KK M
  go_upto_if 19 with (fail)
  go_cut [6] from 7 (fun s6 V => s6 = .int .u64 X ∧ FB V b v K L P x s era (some ⟨g, 0, none⟩) (HN c) AT1 ∧ EB V g A ∧ Tab V ∧ Mm V m p r c cs (cnt + 1) AC ∧ Kept [b, p, r] w V)
  case first =>
    by_cases h0 : L = 0
    · rw [if_pos h0] at eat
      have HE0 := hidOf eat
      clear eat
      have h0z : ((L : Int) == 0) = true := by simp [h0]
      go_wp2_with fail
      refine (bank_any m p r c cs (cnt + 1) AC W HZ.out.2.2.2.2).mono ?_
      rintro e w2 ⟨rfl, rfl⟩
      go_wp2_with fail
      refine (count_any p r _ _ _ _ HZ.out.2.2.2.2.bk).mono ?_
      rintro e w3 ⟨rfl, rfl⟩
      go_wp2
      go_meet
      case rel =>
        obtain ⟨Z, E, T, KK, M⟩ := HZ.out
        have := HN3.out
        have ks := (Kept.refl [b] w3).setCell (p := ⟨b, 8, none⟩) (Or.inl (by simp)) (.int .i64 (cnt + 1))
        rw [HE0.out]
        exact ⟨rfl, Z.set8 (cnt + 1), E.kept ks (by simp; omega), T.keptL ks (by have := HB.out.1; simp; omega), M.kept ks (by simp; omega) (by simp; omega) (by simp; omega), (KK.weaken (m := [b, p, r]) (by simp; try omega)).then ks (by simp)⟩
    · rw [if_neg h0] at eat
      have HE0 := hidOf eat
      clear eat
      have h0z : ((L : Int) == 0) = false := by simp [h0]
      go_wp2
      go_meet
      case rel =>
        obtain ⟨Z, E, T, KK, M⟩ := HZ.out
        rw [HE0.out]
        exact ⟨rfl, Z, E, T, M, KK.weaken (m := [b, p, r]) (by simp; try omega)⟩
  case rest =>
    obtain ⟨rfl, Z, E, T, M, KK⟩ := hcut
    clear z2 z8 zf zl HZ eat
    have HS := hidOf (And.intro Z (And.intro E (And.intro T (And.intro M KK))))
    clear Z E T M KK
    obtain ⟨MB, hM⟩ : ∃ MB, mkB X = MB := ⟨_, rfl⟩
    obtain ⟨U, hU⟩ : ∃ U, vlB X = U := ⟨_, rfl⟩
    have MK : Hid (Calls Tryz.prog 95 #[.int .u64 X] wc fun e w' => e = .returned (.bool MB) ∧ Kept [] wc w') := hM ▸ marked_any X wc HS.out.2.2.1 wW.1 wW.2
    have VL : Hid (∀ Y : World, Kept [] wc Y → Calls Tryz.prog 96 #[.int .u64 X] Y fun e w' => e = .returned (.bool U) ∧ Kept [] Y w') := hidOf (fun Y k => hU ▸ valid_any X Y (HS.out.2.2.1.kept k) wW.1 wW.2)
    have HMU := hidOf (And.intro hM hU)
    clear hM hU wW
    go_wp2_with fail
    refine MK.out.mono ?_
    rintro e w2 ⟨rfl, K2⟩
    clear MK
    cases MB with
    | true =>
      have AN := hidOf (fanew_any b m p r v K L P x s era (some ⟨g, 0, none⟩) (HN c) AT1 c cs (cnt + 1) AC w2 (HS.out.1.kept K2 (by simp)) (HS.out.2.2.2.1.new K2) (HS.out.2.2.1.kept K2) HB.out.1 HH.out.1 HH.out.2.1)
      go_wp2_with fail
      refine AN.out.mono ?_
      rintro e w3 ⟨rfl, ⟨g3, A3, hg3, F3, E3, hA3⟩, K3⟩
      have HX := hidOf (And.intro F3 (And.intro E3 (And.intro hA3 (And.intro hg3 (And.intro K2 K3)))))
      clear AN F3 E3 hA3 hg3 K3 K2
      go_wp2
      go_end0
      obtain ⟨F3, E3, hA3, hg3, K2, K3⟩ := HX.out
      obtain ⟨Z, E, T, M, KK⟩ := HS.out
      have := HN3.out
      rw [← HQ1.out HMU.out.1]
      exact ⟨rfl, HEA.out _ _ _ (HB.out.2 _ (by have := KK.size; have := K2.size; omega)) F3 E3 hA3, (M.new K2).kept K3 (by simp; omega) (by simp; omega) (by simp; omega), FK.of (((KK.weaken (m := [b, gb, p, r]) (by simp; try omega)).then K2 (by simp)).then K3 (by simp))⟩
    | false =>
      go_wp2_with fail
      refine (VL.out w2 K2).mono ?_
      rintro e w3 ⟨rfl, K3⟩
      have K23 := K2.trans K3
      clear VL K2 K3
      cases U with
      | false =>
        have AN := hidOf (fended_any b g v K P x s era L (HN c) AT1 0 0 A w3 (HS.out.1.kept K23 (by simp)) (HS.out.2.1.kept K23 (by simp)) HBG.out.2 HH.out.2.2.1 HH.out.2.2.2 HN3.out.2.1)
        have HK := hidOf K23
        clear K23
        go_wp2_with fail
        refine AN.out.mono ?_
        rintro e w4 ⟨rfl, F4, E4, K4⟩
        have HX := hidOf (And.intro F4 (And.intro E4 K4))
        clear AN F4 E4 K4
        go_wp2
        go_end0
        obtain ⟨F4, E4, K4⟩ := HX.out
        obtain ⟨Z, E, T, M, KK⟩ := HS.out
        have := HN3.out
        rw [← HQ2.out HMU.out.1 HMU.out.2]
        exact ⟨rfl, HEE.out _ F4 E4, (M.new HK.out).kept K4 (by simp; omega) (by simp; omega) (by simp; omega), (FK.of ((KK.weaken (m := [b, gb, p, r]) (by simp; try omega)).then HK.out (by simp))).then (FK.of_row K4 (by simp) (E.kept HK.out (by simp)) HBG.out.1)⟩
      | true =>
        have Z := HS.out.1.kept K23 (by simp)
        have p4 := cell_of_blk Z (i := 4) rfl
        have p1 := cell_of_blk Z (i := 1) rfl
        have pf := free_of_blk Z
        have pl := lt_of_blk Z
        have HZ := hidOf (And.intro Z K23)
        clear Z K23
        go_wp2
        go_end0
        obtain ⟨Z, K23⟩ := HZ.out
        obtain ⟨_, E, T, M, KK⟩ := HS.out
        have ks := ((Kept.refl [b] w3).setCell (p := ⟨b, 4, none⟩) (Or.inl (by simp)) (.int .u64 X)).setCell (p := ⟨b, 1, none⟩) (Or.inl (by simp)) (ffV 98 b)
        unfold ffV at ks
        have := HN3.out
        rw [← HQ3.out HMU.out.1 HMU.out.2]
        exact ⟨rfl, HEC.out _ ((Z.set4 X).set1 (ffV 98 b)) ((E.kept K23 (by simp)).kept ks (by simp; omega)), (M.new K23).kept ks (by simp; omega) (by simp; omega) (by simp; omega), FK.of (((KK.weaken (m := [b, gb, p, r]) (by simp; try omega)).then K23 (by simp)).then ks (by simp))⟩
end K
end Go.Proofs.YtgafmklfpiipcaaGreatDoor
namespace Go.Proofs.YtgafmklfpiipcaaGreatDoor
open Go.RowKit (Grown Hid Below)
open Go.Deep
namespace K
set_option maxRecDepth 100000
theorem fs_mid {base : Nat → Prop} {w : World} {b g : Nat} {c : Cfg} {f f' : Fm} {x s era lw : Int} {v : Value} {A : Array Value} (hb : 0 < b) (hF : FB w b v f'.k lw f'.pr x s era (some ⟨g, 0, none⟩) (HN c) f'.at_) (hv : v = phF f' b) (hE : EB w g A) (hA : A.size = HN c * 3) (hg : base g) (hn : Note c f A) (e1 : f'.dn = f.dn) (e2 : f'.ps = f.ps) (e3 : f'.ss = f.ss) (e4 : f'.ks = f.ks) (hl : f'.d = false → lw = lv c f') (hx : f'.d = false → 1 ≤ f'.nx → f'.nx ≠ 2 → x = f'.x) (hs : f'.d = false → f'.nx = 4 → s = f'.s) (he : f'.d = false → f'.nx = 2 → era = f'.era) : FS base w b c f' := by
  subst hv
  exact ⟨hb, Or.inr ⟨x, s, era, lw, g, A, hF, hE, hA, hg, fun t ht => by rw [e2, e3, e4]; exact hn t (by rw [← e1]; exact ht), hl, hx, hs, he⟩⟩
set_option maxHeartbeats 4000000 in
theorem fcheck_any (base : Nat → Prop) (b m p r g gb : Nat) (v : Value) (c : Cfg) (f : Fm) (cs : List Int) (cnt : Int) (a : Acc) (gs : Gs) (s era : Int) (A : Array Value) (w : World) (S : AtS base w b m p r c f cs cnt a) (hF : FB w b v f.k (lv c f) f.pr f.x s era (some ⟨g, 0, none⟩) (HN c) f.at_) (hE : EB w g A) (hA : A.size = HN c * 3) (hg : base g) (hn : Note c f A) (hG : GB w gb gs) :
    Calls Tryz.prog 98 #[.pointer (some ⟨b, 0, none⟩), .pointer (some ⟨m, 0, none⟩), .pointer (some ⟨gb, 0, none⟩)] w fun e w' => e = .returned (.tuple #[]) ∧ FS base w' b c { f with era := rdG cs 0, nx := if rdG cs 0 = gs.l then 3 else 2 } ∧ Mm w' m p r c cs (cnt + 1) (acV cs 1 0 0 0 0) ∧ GB w' gb gs ∧ FK base [b, gb, p, r] w w' := by
  obtain ⟨n1, n2, n3⟩ := hF.nm S.mm
  have bgn : ¬ b = g := blk_ne (T1 := 113) (T2 := 166) hF hE (by decide)
  have gnn : ¬ g = m ∧ ¬ g = p ∧ ¬ g = r := ⟨blk_ne (T1 := 166) hE S.mm.st (by decide), blk_ne (T1 := 166) hE S.mm.bk.st (by decide), blk_ne (T1 := 166) hE S.mm.bk.row (by decide)⟩
  have ngb := hF.ng hG
  have CK := hidOf (gcheck_any gb m p r gs c cs cnt a w hG S.mm S.c0 S.c1)
  have eo : (acV cs 1 0 0 0 0).o = rdG cs 0 := rfl
  rw [eo] at CK
  obtain ⟨E, hE0⟩ : ∃ E, E = rdG cs 0 := ⟨_, rfl⟩
  obtain ⟨B, hB⟩ : ∃ B, B = (E == gs.l) := ⟨_, rfl⟩
  rw [← hE0, ← hB] at CK
  rw [← hE0]
  clear hE0 eo
  have HP := hidOf (fun (w' : World) (h : B = true) (F3 : FB w' b (ffV 105 b) f.k (lv c f) f.pr f.x s era (some ⟨g, 0, none⟩) (HN c) f.at_) (E3 : EB w' g A) => (show FS base w' b c { f with era := E, nx := if E = gs.l then 3 else 2 } from by
    have he : E = gs.l := by rw [h] at hB; simpa using hB.symm
    rw [if_pos he]
    exact fs_mid (f := f) S.b0 F3 (by unfold phF; rw [show ({ f with era := E, nx := 3 } : Fm).d = false from S.hd]; rfl) E3 hA hg hn rfl rfl rfl rfl (fun _ => rfl) (fun _ _ _ => rfl) (fun _ h => absurd h (by show ¬ 3 = 4; omega)) (fun _ h => absurd h (by show ¬ 3 = 2; omega))))
  have HQ := hidOf (fun (w' : World) (h : B = false) (F3 : FB w' b (ffV 106 b) f.k (lv c f) f.pr f.x s E (some ⟨g, 0, none⟩) (HN c) f.at_) (E3 : EB w' g A) => (show FS base w' b c { f with era := E, nx := if E = gs.l then 3 else 2 } from by
    have he : ¬ E = gs.l := by rw [h] at hB; simpa using hB.symm
    rw [if_neg he]
    exact fs_mid (f := f) S.b0 F3 (by unfold phF; rw [show ({ f with era := E, nx := 2 } : Fm).d = false from S.hd]; rfl) E3 hA hg hn rfl rfl rfl rfl (fun _ => rfl) (fun _ _ h => absurd rfl h) (fun _ h => absurd h (by show ¬ 2 = 4; omega)) (fun _ _ => rfl)))
  generalize ({ f with era := E, nx := if E = gs.l then 3 else 2 } : Fm) = Q at HP HQ ⊢
  generalize acV cs 1 0 0 0 0 = AC at CK ⊢
  generalize f.pr = P at hF HP HQ
  generalize f.k = K at hF HP HQ
  generalize f.at_ = AT at hF HP HQ
  generalize f.x = X at hF HP HQ
  generalize lv c f = L at hF HP HQ
  have HN3 := hidOf (And.intro (And.intro n1 (And.intro n2 n3)) (And.intro bgn (And.intro gnn ngb)))
  have HFE := hidOf (And.intro hF hE)
  clear S hB n1 n2 n3 bgn gnn ngb hg hA hn hE hF hG
  go_enter Tryz.func98, Tryz.ntmps98
  go_wp2_with fail
  refine CK.out.mono ?_
  rintro e w1 ⟨rfl, M1, G1, K1⟩
  have Z := HFE.out.1.kept K1 (by have := HN3.out; simp; omega)
  have z1 := cell_of_blk Z (i := 1) rfl
  have z6 := cell_of_blk Z (i := 6) rfl
  have zf := free_of_blk Z
  have zl := lt_of_blk Z
  have HX := hidOf (And.intro Z (And.intro (HFE.out.2.kept K1 (by have := HN3.out; simp; omega)) (And.intro M1 (And.intro G1 K1))))
  clear Z M1 G1 K1 CK HFE
  cases B with
  | true =>
    go_wp2
    obtain ⟨Z, E1, M1, G1, K1⟩ := HX.out
    have ks := (Kept.refl [b] w1).setCell (p := ⟨b, 1, none⟩) (Or.inl (by simp)) (ffV 105 b)
    unfold ffV at ks
    have := HN3.out
    exact bodyPost_ret (v := .tuple #[]) (by simp [results, Tryz.results98, go_sem]) rfl ⟨rfl, HP.out _ (by simp) (Z.set1 (ffV 105 b)) (E1.kept ks (by simp; omega)), M1.kept ks (by simp; omega) (by simp; omega) (by simp; omega), G1.kept ks (by simp; omega), FK.of ((K1.weaken (m := [b, gb, p, r]) (by simp; try omega)).then ks (by simp))⟩
  | false =>
    go_wp2
    go_end0
    obtain ⟨Z, E1, M1, G1, K1⟩ := HX.out
    have ks := ((Kept.refl [b] w1).setCell (p := ⟨b, 6, none⟩) (Or.inl (by simp)) (.int .u64 E)).setCell (p := ⟨b, 1, none⟩) (Or.inl (by simp)) (ffV 106 b)
    unfold ffV at ks
    have := HN3.out
    exact ⟨rfl, HQ.out _ (by simp) ((Z.set6 E).set1 (ffV 106 b)) (E1.kept ks (by simp; omega)), M1.kept ks (by simp; omega) (by simp; omega) (by simp; omega), G1.kept ks (by simp; omega), FK.of ((K1.weaken (m := [b, gb, p, r]) (by simp; try omega)).then ks (by simp))⟩
set_option maxHeartbeats 4000000 in
theorem fpublish_any (base : Nat → Prop) (b m p r g gb : Nat) (v : Value) (c : Cfg) (f : Fm) (cs : List Int) (cnt : Int) (a : Acc) (gs : Gs) (x s : Int) (A : Array Value) (w : World) (S : AtS base w b m p r c f cs cnt a) (hF : FB w b v f.k (lv c f) f.pr x s f.era (some ⟨g, 0, none⟩) (HN c) f.at_) (hE : EB w g A) (hA : A.size = HN c * 3) (hg : base g) (hn : Note c f A) (hG : GB w gb gs) (u0 : 0 ≤ gs.u) (u1 : gs.u < 1000) (g0 : 0 < gb) :
    Calls Tryz.prog 106 #[.pointer (some ⟨b, 0, none⟩), .pointer (some ⟨m, 0, none⟩), .pointer (some ⟨gb, 0, none⟩)] w fun e w' => e = .returned (.tuple #[]) ∧ FS base w' b c (if gs.u < c.s then { f with nx := 0 } else f.anew f.at_) ∧ Mm w' m p r c (clV cs 2 (rsV c gs.t (pubN c gs)) 0 f.era) (cnt + 1) (acV cs 2 (rsV c gs.t (pubN c gs)) 0 0 f.era) ∧ GB w' gb (pubG c gs f.era) ∧ FK base [b, gb, p, r] w w' := by
  obtain ⟨n1, n2, n3⟩ := hF.nm S.mm
  have bgn : ¬ b = g := blk_ne (T1 := 113) (T2 := 166) hF hE (by decide)
  have gnn : ¬ g = m ∧ ¬ g = p ∧ ¬ g = r := ⟨blk_ne (T1 := 166) hE S.mm.st (by decide), blk_ne (T1 := 166) hE S.mm.bk.st (by decide), blk_ne (T1 := 166) hE S.mm.bk.row (by decide)⟩
  have ngb : ¬ b = gb ∧ ¬ g = gb := ⟨hF.ng hG, blk_ne (T1 := 166) (T2 := 79) hE hG (by decide)⟩
  have PB := hidOf (gpublish_any gb m p r gs c cs cnt a f.era w hG S.mm u0 u1 S.c0 S.c1)
  obtain ⟨B, hB⟩ : ∃ B, B = decide (gs.u < c.s) := ⟨_, rfl⟩
  rw [← hB] at PB
  have HP := hidOf (fun (w' : World) (h : B = true) (F3 : FB w' b (ffV 76 b) f.k (lv c f) f.pr x s f.era (some ⟨g, 0, none⟩) (HN c) f.at_) (E3 : EB w' g A) => (show FS base w' b c (if gs.u < c.s then { f with nx := 0 } else f.anew f.at_) from by
    have he : gs.u < c.s := by rw [h] at hB; exact of_decide_eq_true hB.symm
    rw [if_pos he]
    exact fs_mid (f := f) S.b0 F3 (by unfold phF; rw [show ({ f with nx := 0 } : Fm).d = false from S.hd]; rfl) E3 hA hg hn rfl rfl rfl rfl (fun _ => rfl) (fun _ h => absurd h (by show ¬ 1 ≤ 0; omega)) (fun _ h => absurd h (by show ¬ 0 = 4; omega)) (fun _ h => absurd h (by show ¬ 0 = 2; omega))))
  have HQ := hidOf (fun (w' : World) (h : B = false) (g3 : Nat) (A3 : Array Value) (hg3 : base g3) (F3 : FB w' b (ffV 76 b) f.k (c.h - 1) 9223372036854775808 x s f.era (some ⟨g3, 0, none⟩) (HN c) f.at_) (E3 : EB w' g3 A3) (h3 : A3.size = HN c * 3) => (show FS base w' b c (if gs.u < c.s then { f with nx := 0 } else f.anew f.at_) from by
    have he : ¬ gs.u < c.s := by rw [h] at hB; exact of_decide_eq_false hB.symm
    rw [if_neg he]
    exact fs_anew (f := f) S.b0 F3 E3 h3 hg3))
  generalize (if gs.u < c.s then ({ f with nx := 0 } : Fm) else f.anew f.at_) = Q at HP HQ ⊢
  generalize acV cs 2 (rsV c gs.t (pubN c gs)) 0 0 f.era = AC at PB ⊢
  generalize clV cs 2 (rsV c gs.t (pubN c gs)) 0 f.era = CC at PB ⊢
  generalize pubG c gs f.era = G2 at PB ⊢
  generalize f.pr = P at hF HP HQ
  generalize f.k = K at hF HP HQ
  generalize f.at_ = AT at hF HP HQ
  generalize f.era = E at hF HP HQ PB
  generalize lv c f = L at hF HP
  have HN3 := hidOf (And.intro (And.intro n1 (And.intro n2 n3)) (And.intro bgn (And.intro gnn ngb)))
  have HFE := hidOf (And.intro hF hE)
  have HS := hidOf (And.intro S.tb (And.intro S.b0 (And.intro S.bs (And.intro S.R.h0 (show c.h ≤ 100 by have := S.R.h1; omega)))))
  have q6 := cell_of_blk hF (i := 6) rfl
  clear S hB n1 n2 n3 bgn gnn ngb hg hA hn hE hF
  have HG0 := hidOf g0
  clear hG g0
  go_enter Tryz.func106, Tryz.ntmps106
  go_wp2_with fail
  refine PB.out.mono ?_
  rintro e w1 ⟨rfl, M1, G1, K1⟩
  have Z := HFE.out.1.kept K1 (by have := HN3.out; simp; omega)
  have z1 := cell_of_blk Z (i := 1) rfl
  have zf := free_of_blk Z
  have zl := lt_of_blk Z
  have T1 := HS.out.1.keptL K1 (by have := M1.pos; have := HG0.out; simp; omega)
  have HX := hidOf (And.intro Z (And.intro (HFE.out.2.kept K1 (by have := HN3.out; simp; omega)) (And.intro M1 (And.intro G1 (And.intro T1 K1)))))
  clear Z M1 G1 K1 PB HFE q6 T1
  cases B with
  | true =>
    go_wp2
    go_end0
    obtain ⟨Z, E1, M1, G1, T1, K1⟩ := HX.out
    have ks := (Kept.refl [b] w1).setCell (p := ⟨b, 1, none⟩) (Or.inl (by simp)) (ffV 76 b)
    unfold ffV at ks
    have := HN3.out
    exact ⟨rfl, HP.out _ (by simp) (Z.set1 (ffV 76 b)) (E1.kept ks (by simp; omega)), M1.kept ks (by simp; omega) (by simp; omega) (by simp; omega), G1.kept ks (by simp; omega), FK.of ((K1.weaken (m := [b, gb, p, r]) (by simp; try omega)).then ks (by simp))⟩
  | false =>
    have AN := hidOf (fanew_any b m p r v K L P x s E (some ⟨g, 0, none⟩) (HN c) AT c CC (cnt + 1) AC w1 HX.out.1 HX.out.2.2.1 HX.out.2.2.2.2.1 HS.out.2.1 HS.out.2.2.2.1 HS.out.2.2.2.2)
    clear z1 zf zl
    go_wp2_with fail
    refine AN.out.mono ?_
    rintro e w3 ⟨rfl, ⟨g3, A3, hg3, F3, E3, hA3⟩, K3⟩
    have HY := hidOf (And.intro F3 (And.intro E3 (And.intro hA3 (And.intro hg3 K3))))
    clear AN F3 E3 hA3 hg3 K3
    go_wp2
    obtain ⟨F3, E3, hA3, hg3, K3⟩ := HY.out
    obtain ⟨Z, E1, M1, G1, T1, K1⟩ := HX.out
    have := HN3.out
    exact bodyPost_ret (v := .tuple #[]) (by simp [results, Tryz.results106, go_sem]) rfl ⟨rfl, HQ.out _ (by simp) _ _ (HS.out.2.2.1 _ (by have := K1.size; omega)) F3 E3 hA3, M1.kept K3 (by simp; omega) (by simp; omega) (by simp; omega), G1.kept K3 (by simp; omega), FK.of ((K1.weaken (m := [b, gb, p, r]) (by simp; try omega)).then K3 (by simp))⟩
set_option maxHeartbeats 4000000 in
theorem fkey_any (base : Nat → Prop) (b m p r g gb : Nat) (v V : Value) (c : Cfg) (f : Fm) (cs : List Int) (cnt : Int) (a : Acc) (s era : Int) (A : Array Value) (w : World) (S : AtS base w b m p r c f cs cnt a) (hF : FB w b v f.k (lv c f) f.pr f.x s era (some ⟨g, 0, none⟩) (HN c) f.at_) (hE : EB w g A) (hA : A.size = HN c * 3) (hg : base g) (hn : Note c f A) :
    Calls Tryz.prog 111 #[.pointer (some ⟨b, 0, none⟩), .pointer (some ⟨m, 0, none⟩), V] w fun e w' => e = .returned (.tuple #[]) ∧ FS base w' b c (if f.k ≤ fd c cs (ixV f.x) 1 then f.ended c f.at_ f.x (fd c cs (ixV f.x) 1) else { f with pr := f.x, nx := 0 }) ∧ Mm w' m p r c cs (cnt + 1) (acV cs 1 (clV' c (ixV f.x) 1) (plainV f.x) 0 0) ∧ FK base [b, gb, p, r] w w' := by
  obtain ⟨n1, n2, n3⟩ := hF.nm S.mm
  have bgn : ¬ b = g := blk_ne (T1 := 113) (T2 := 166) hF hE (by decide)
  have gnn : ¬ g = m ∧ ¬ g = p ∧ ¬ g = r := ⟨blk_ne (T1 := 166) hE S.mm.st (by decide), blk_ne (T1 := 166) hE S.mm.bk.st (by decide), blk_ne (T1 := 166) hE S.mm.bk.row (by decide)⟩
  have LD := hidOf (mload_any m p r c cs cnt a f.x 1 w S.mm S.tb S.fi.x.1 S.fi.x.2 S.c0 S.c1)
  have eo : (acV cs 1 (clV' c (ixV f.x) 1) (plainV f.x) 0 0).o = fd c cs (ixV f.x) 1 := by rw [ld_o]; rfl
  rw [clk_load, eo] at LD
  have eL := lv_nat S.R S.fi S.hd
  have hlt := S.fi.lt S.hd
  have hh := HN_eq S.R
  have h1 := S.R.h1
  obtain ⟨L, hL⟩ : ∃ L, L = HN c - 1 - f.dn := ⟨_, rfl⟩
  rw [← hL] at eL
  obtain ⟨D, hD⟩ : ∃ D, D = fd c cs (ixV f.x) 1 := ⟨_, rfl⟩
  rw [← hD] at LD ⊢
  clear hD eo
  have HP := hidOf (fun (w' : World) (h : f.k ≤ D) (F3 : FB w' b (if L = 0 then .nilFunc else ffV 76 b) f.k (if L = 0 then 0 else (L : Int) - 1) f.pr f.x s era (some ⟨g, 0, none⟩) (HN c) f.at_) (E3 : EB w' g (btW A L f.pr f.x D)) => (show FS base w' b c (if f.k ≤ D then f.ended c f.at_ f.x D else { f with pr := f.x, nx := 0 }) from by
    rw [if_pos h]
    exact fs_ended (base := base) S.R S.fi S.hd S.b0 hL F3 E3 hA hg hn))
  have HQ := hidOf (fun (w' : World) (h : ¬ f.k ≤ D) (F3 : FB w' b (ffV 76 b) f.k (L : Int) f.x f.x s era (some ⟨g, 0, none⟩) (HN c) f.at_) (E3 : EB w' g A) => (show FS base w' b c (if f.k ≤ D then f.ended c f.at_ f.x D else { f with pr := f.x, nx := 0 }) from by
    rw [if_neg h]
    exact fs_mid (f := f) S.b0 F3 (by unfold phF; rw [show ({ f with pr := f.x, nx := 0 } : Fm).d = false from S.hd]; rfl) E3 hA hg hn rfl rfl rfl rfl (fun _ => eL.symm) (fun _ h => absurd h (by show ¬ 1 ≤ 0; omega)) (fun _ h => absurd h (by show ¬ 0 = 4; omega)) (fun _ h => absurd h (by show ¬ 0 = 2; omega))))
  rw [eL] at hF
  have ED := hidOf (show f.k ≤ D ∨ ¬ f.k ≤ D by omega)
  generalize (if f.k ≤ D then f.ended c f.at_ f.x D else ({ f with pr := f.x, nx := 0 } : Fm)) = Q at HP HQ ⊢
  generalize acV cs 1 (clV' c (ixV f.x) 1) (plainV f.x) 0 0 = AC at LD ⊢
  generalize f.pr = P at hF HP
  generalize f.k = K at hF HP HQ ED
  generalize f.at_ = AT at hF HP HQ
  generalize f.x = X at hF HP HQ LD
  have HN3 := hidOf (And.intro (And.intro n1 (And.intro n2 n3)) (And.intro bgn gnn))
  have HFE := hidOf (And.intro hF hE)
  have HH := hidOf (And.intro (show HN c ≤ 100 by omega) (And.intro (show L < HN c by omega) (And.intro hA hg)))
  have q4 := cell_of_blk hF (i := 4) rfl
  clear S n1 n2 n3 bgn gnn hg hA hn hE hF eL hL hlt hh h1
  go_enter Tryz.func111, Tryz.ntmps111
  go_wp2_with fail
  refine LD.out.mono ?_
  rintro e w1 ⟨rfl, M1, K1⟩
  have Z := HFE.out.1.kept K1 (by have := HN3.out; simp; omega)
  have z0 := cell_of_blk Z (i := 0) rfl
  have z1 := cell_of_blk Z (i := 1) rfl
  have z3 := cell_of_blk Z (i := 3) rfl
  have z4 := cell_of_blk Z (i := 4) rfl
  have zf := free_of_blk Z
  have zl := lt_of_blk Z
  have HX := hidOf (And.intro Z (And.intro (HFE.out.2.kept K1 (by have := HN3.out; simp; omega)) (And.intro M1 K1)))
  clear Z M1 K1 LD HFE q4
  rcases ED.out with hk | hk
  · have AN := hidOf (fended_any b g v K P X s era L (HN c) AT X D A w1 HX.out.1 HX.out.2.1 HH.out.2.2.1 HH.out.1 HH.out.2.1 HN3.out.2.1)
    go_wp2_with fail
    refine AN.out.mono ?_
    rintro e w3 ⟨rfl, F3, E3, K3⟩
    have HY := hidOf (And.intro F3 (And.intro E3 K3))
    clear AN F3 E3 K3
    go_wp2
    obtain ⟨F3, E3, K3⟩ := HY.out
    obtain ⟨Z, E1, M1, K1⟩ := HX.out
    have := HN3.out
    exact bodyPost_ret (v := .tuple #[]) (by simp [results, Tryz.results111, go_sem]) rfl ⟨rfl, HP.out _ hk F3 E3, M1.kept K3 (by simp; omega) (by simp; omega) (by simp; omega), (FK.of (K1.weaken (m := [b, gb, p, r]) (by simp; try omega))).then (FK.of_row K3 (by simp) E1 HH.out.2.2.2)⟩
  · have hk2 : D < K := by omega
    go_wp2
    go_end0
    obtain ⟨Z, E1, M1, K1⟩ := HX.out
    have ks := ((Kept.refl [b] w1).setCell (p := ⟨b, 3, none⟩) (Or.inl (by simp)) (.int .u64 X)).setCell (p := ⟨b, 1, none⟩) (Or.inl (by simp)) (ffV 76 b)
    unfold ffV at ks
    have := HN3.out
    exact ⟨rfl, HQ.out _ hk ((Z.set3 X).set1 (ffV 76 b)) (E1.kept ks (by simp; omega)), M1.kept ks (by simp; omega) (by simp; omega) (by simp; omega), FK.of ((K1.weaken (m := [b, gb, p, r]) (by simp; try omega)).then ks (by simp))⟩
end K
end Go.Proofs.YtgafmklfpiipcaaGreatDoor
namespace Go.Proofs.YtgafmklfpiipcaaGreatDoor
open Go.RowKit (Grown Hid Below)
open Go.Deep
namespace K
set_option maxRecDepth 100000
set_option maxHeartbeats 4000000 in
theorem fpeek_any (base : Nat → Prop) (b m p r g gb : Nat) (v V : Value) (c : Cfg) (f : Fm) (cs : List Int) (cnt : Int) (a : Acc) (s era : Int) (A : Array Value) (w : World) (S : AtS base w b m p r c f cs cnt a) (hF : FB w b v f.k (lv c f) f.pr f.x s era (some ⟨g, 0, none⟩) (HN c) f.at_) (hE : EB w g A) (hA : A.size = HN c * 3) (hg : base g) (hn : Note c f A) :
    Calls Tryz.prog 105 #[.pointer (some ⟨b, 0, none⟩), .pointer (some ⟨m, 0, none⟩), V] w fun e w' => e = .returned (.tuple #[]) ∧ FS base w' b c { f with s := fd c cs (ixV f.x) (6 + lv c f), nx := if mkB (fd c cs (ixV f.x) (6 + lv c f)) = true then 4 else 5 } ∧ Mm w' m p r c cs (cnt + 1) (acV cs 1 (clV' c (ixV f.x) (6 + lv c f)) (plainV f.x) 0 0) ∧ FK base [b, gb, p, r] w w' := by
  obtain ⟨n1, n2, n3⟩ := hF.nm S.mm
  have bgn : ¬ b = g := blk_ne (T1 := 113) (T2 := 166) hF hE (by decide)
  have gnn : ¬ g = m ∧ ¬ g = p ∧ ¬ g = r := ⟨blk_ne (T1 := 166) hE S.mm.st (by decide), blk_ne (T1 := 166) hE S.mm.bk.st (by decide), blk_ne (T1 := 166) hE S.mm.bk.row (by decide)⟩
  have eL := lv_nat S.R S.fi S.hd
  have hlt := S.fi.lt S.hd
  have hh := HN_eq S.R
  have h1 := S.R.h1
  obtain ⟨L, hL⟩ : ∃ L, L = HN c - 1 - f.dn := ⟨_, rfl⟩
  rw [← hL] at eL
  rw [eL] at hF
  have LD := hidOf (fun (W : World) (k : Kept [] w W) => (mload_any m p r c cs cnt a f.x (6 + L) W (S.mm.new k) (S.tb.kept k) S.fi.x.1 S.fi.x.2 S.c0 S.c1).mono fun _ _ hh => And.intro hh.1 (And.intro hh.2.1 ((k.weaken (m := [p, r]) (by simp)).trans hh.2.2)))
  have NX := hidOf (fun (W : World) (k : Kept [] w W) => fnext_any b v f.k L f.pr f.x s era (some ⟨g, 0, none⟩) (HN c) f.at_ W (hF.kept k (by simp)) (by omega) (by omega))
  have eo : (acV cs 1 (clV' c (ixV f.x) (6 + L)) (plainV f.x) 0 0).o = fd c cs (ixV f.x) (6 + lv c f) := by rw [ld_o, ← eL]; rfl
  rw [clk_load, eo] at LD
  have wY : isW (fd c cs (ixV f.x) (6 + lv c f)) := fd_word (c := c) S.wd _ _
  obtain ⟨Y, hY⟩ : ∃ Y, Y = fd c cs (ixV f.x) (6 + lv c f) := ⟨_, rfl⟩
  rw [← hY] at LD wY ⊢
  rw [eL]
  clear hY eo
  have HP := hidOf (fun (w' : World) (h : mkB Y = true) (F3 : FB w' b (ffV 110 b) f.k (L : Int) f.pr f.x Y era (some ⟨g, 0, none⟩) (HN c) f.at_) (E3 : EB w' g A) => (show FS base w' b c { f with s := Y, nx := if mkB Y = true then 4 else 5 } from by
    rw [if_pos h]
    exact fs_mid (f := f) S.b0 F3 (by unfold phF; rw [show ({ f with s := Y, nx := 4 } : Fm).d = false from S.hd]; rfl) E3 hA hg hn rfl rfl rfl rfl (fun _ => eL.symm) (fun _ _ _ => rfl) (fun _ _ => rfl) (fun _ h => absurd h (by show ¬ 4 = 2; omega))))
  have HQ := hidOf (fun (w' : World) (h : mkB Y = false) (F3 : FB w' b (ffV 111 b) f.k (L : Int) f.pr f.x Y era (some ⟨g, 0, none⟩) (HN c) f.at_) (E3 : EB w' g A) => (show FS base w' b c { f with s := Y, nx := if mkB Y = true then 4 else 5 } from by
    rw [if_neg (by rw [h]; decide)]
    exact fs_mid (f := f) S.b0 F3 (by unfold phF; rw [show ({ f with s := Y, nx := 5 } : Fm).d = false from S.hd]; rfl) E3 hA hg hn rfl rfl rfl rfl (fun _ => eL.symm) (fun _ _ _ => rfl) (fun _ h => absurd h (by show ¬ 5 = 4; omega)) (fun _ h => absurd h (by show ¬ 5 = 2; omega))))
  generalize ({ f with s := Y, nx := if mkB Y = true then 4 else 5 } : Fm) = Q at HP HQ ⊢
  generalize acV cs 1 (clV' c (ixV f.x) (6 + (L : Int))) (plainV f.x) 0 0 = AC at LD ⊢
  generalize f.pr = P at hF HP HQ NX
  generalize f.k = K at hF HP HQ NX
  generalize f.at_ = AT at hF HP HQ NX
  generalize f.x = X at hF HP HQ NX LD
  have HN3 := hidOf (And.intro (And.intro n1 (And.intro n2 n3)) (And.intro bgn gnn))
  have HFE := hidOf (And.intro hF hE)
  have HT := hidOf S.tb
  have HB0 := hidOf S.b0
  have HM := hidOf S.mm
  have q4 := cell_of_blk hF (i := 4) rfl
  clear S n1 n2 n3 bgn gnn hg hA hn hE hF eL hL hlt hh h1
  have HS0 : Hid (∀ W' : World, Kept [p, r] w W' → W'.cell? ⟨b, 4, none⟩ = some (.int .u64 X)) := by
    intro W' k
    have := HN3.out
    exact cell_of_blk (k.blk HFE.out.1 (by simp; omega)) (i := 4) rfl
  have HS5 : Hid (∀ W' : World, FB W' b v K L P X s era (some ⟨g, 0, none⟩) (HN c) AT → (W'.setCell ⟨b, 5, none⟩ (.int .u64 Y)).cell? ⟨b, 4, none⟩ = some (.int .u64 X)) := fun W' h => cell_of_blk (h.set5 Y) (i := 4) rfl
  go_enter Tryz.func105, Tryz.ntmps105
  go_wp2_with fail
  go_region_held3 (fun W' => W'.cell? ⟨b, 4, none⟩ = some (.int .u64 X))
    (first | exact HS0.out _ (by assumption) | exact HS5.out _ (by assumption) | exact HS0.out _ (Kept.weaken (m := [p, r]) (by assumption) (by simp)) | exact HS0.out _ (Kept.refl _ _).drew | exact HS0.out _ (Kept.refl _ _))
    (first
      | (go_at_call 94; refine (NX.out _ (by first | assumption | exact (Kept.refl _ _).drew)).mono ?_; rintro e w5 ⟨rfl, rfl⟩)
      | (go_at_call 28; refine (LD.out _ (by first | assumption | exact (Kept.refl _ _).drew)).mono ?_; rintro e w7 ⟨rfl, M7, K7⟩
         have Z7 := HFE.out.1.kept K7 (by have := HN3.out; simp; omega)
         have z5 := cell_of_blk Z7 (i := 5) rfl
         have zf7 := free_of_blk Z7
         have zl7 := lt_of_blk Z7))
  have HX7 := hidOf (And.intro Z7 (And.intro (HFE.out.2.kept K7 (by have := HN3.out; simp; omega)) (And.intro (HT.out.mm HM.out K7) (And.intro M7 K7))))
  clear M7 Z7 K7 z5 zf7 zl7 LD NX HS0 HS5 q4
  go_upto_region 1 with (fail)
  refine gen_world (fun W => FB W b v K L P X Y era (some ⟨g, 0, none⟩) (HN c) AT ∧ EB W g A ∧ Tab W ∧ Mm W m p r c cs (cnt + 1) AC ∧ Kept [b, p, r] w W) ?_ ?_
  · obtain ⟨Z, E, T, M, K7⟩ := HX7.out
    have ks := (Kept.refl [b] w7).setCell (p := ⟨b, 5, none⟩) (Or.inl (by simp)) (.int .u64 Y)
    have := HN3.out
    have b0 := HB0.out
    exact ⟨Z.set5 Y, E.kept ks (by simp; omega), T.keptL ks (by simp; omega), M.kept ks (by simp; omega) (by simp; omega) (by simp; omega), (K7.weaken (m := [b, p, r]) (by simp; try omega)).then ks (by simp)⟩
  clear HX7 HFE HM HT
  rintro W ⟨Z, E, T, M, KK⟩
  have z5 := cell_of_blk Z (i := 5) rfl
  have z1 := cell_of_blk Z (i := 1) rfl
  obtain ⟨B, hB⟩ : ∃ B, mkB Y = B := ⟨_, rfl⟩
  have MK : Hid (Calls Tryz.prog 95 #[.int .u64 Y] W fun e w' => e = .returned (.bool B) ∧ Kept [] W w') := hB ▸ marked_any Y W T wY.1 wY.2
  have HB := hidOf hB
  have HX := hidOf (And.intro Z (And.intro E (And.intro T (And.intro M KK))))
  clear Z E T M KK hB wY
  go_wp2_with fail
  refine MK.out.mono ?_
  rintro e w2 ⟨rfl, K2⟩
  have Z2 := HX.out.1.kept K2 (by simp)
  have y1 := cell_of_blk Z2 (i := 1) rfl
  have yf := free_of_blk Z2
  have yl := lt_of_blk Z2
  have HY := hidOf (And.intro Z2 K2)
  clear Z2 K2 MK z5 z1
  cases B with
  | true =>
    go_wp2
    obtain ⟨_, E1, T1, M1, KK⟩ := HX.out
    obtain ⟨Z2, K2⟩ := HY.out
    have ks := (Kept.refl [b] w2).setCell (p := ⟨b, 1, none⟩) (Or.inl (by simp)) (ffV 110 b)
    unfold ffV at ks
    have := HN3.out
    exact bodyPost_ret (v := .tuple #[]) (by simp [results, Tryz.results105, go_sem]) rfl ⟨rfl, HP.out _ HB.out (Z2.set1 (ffV 110 b)) ((E1.kept K2 (by simp)).kept ks (by simp; omega)), (M1.new K2).kept ks (by simp; omega) (by simp; omega) (by simp; omega), FK.of (((KK.weaken (m := [b, gb, p, r]) (by simp; try omega)).then K2 (by simp)).then ks (by simp))⟩
  | false =>
    go_wp2
    go_end0
    obtain ⟨_, E1, T1, M1, KK⟩ := HX.out
    obtain ⟨Z2, K2⟩ := HY.out
    have ks := (Kept.refl [b] w2).setCell (p := ⟨b, 1, none⟩) (Or.inl (by simp)) (ffV 111 b)
    unfold ffV at ks
    have := HN3.out
    exact ⟨rfl, HQ.out _ HB.out (Z2.set1 (ffV 111 b)) ((E1.kept K2 (by simp)).kept ks (by simp; omega)), (M1.new K2).kept ks (by simp; omega) (by simp; omega) (by simp; omega), FK.of (((KK.weaken (m := [b, gb, p, r]) (by simp; try omega)).then K2 (by simp)).then ks (by simp))⟩
set_option maxHeartbeats 4000000 in
theorem funlink_any (base : Nat → Prop) (b m p r g gb : Nat) (v V : Value) (c : Cfg) (f : Fm) (cs : List Int) (cnt : Int) (a : Acc) (era : Int) (A : Array Value) (w : World) (S : AtS base w b m p r c f cs cnt a) (hF : FB w b v f.k (lv c f) f.pr f.x f.s era (some ⟨g, 0, none⟩) (HN c) f.at_) (hE : EB w g A) (hA : A.size = HN c * 3) (hg : base g) (hn : Note c f A) :
    Calls Tryz.prog 110 #[.pointer (some ⟨b, 0, none⟩), .pointer (some ⟨m, 0, none⟩), V] w fun e w' => e = .returned (.tuple #[]) ∧ FS base w' b c (if (acV cs 3 (clV' c (ixV f.pr) (6 + lv c f)) (plainV f.pr) f.x (plainV f.s)).d = true then { f with nx := 0 } else f.anew f.at_) ∧ Mm w' m p r c (clV cs 3 (clV' c (ixV f.pr) (6 + lv c f)) f.x (plainV f.s)) (cnt + 1) (acV cs 3 (clV' c (ixV f.pr) (6 + lv c f)) (plainV f.pr) f.x (plainV f.s)) ∧ FK base [b, gb, p, r] w w' := by
  obtain ⟨n1, n2, n3⟩ := hF.nm S.mm
  have bgn : ¬ b = g := blk_ne (T1 := 113) (T2 := 166) hF hE (by decide)
  have gnn : ¬ g = m ∧ ¬ g = p ∧ ¬ g = r := ⟨blk_ne (T1 := 166) hE S.mm.st (by decide), blk_ne (T1 := 166) hE S.mm.bk.st (by decide), blk_ne (T1 := 166) hE S.mm.bk.row (by decide)⟩
  have eL := lv_nat S.R S.fi S.hd
  have hlt := S.fi.lt S.hd
  have hh := HN_eq S.R
  have h1 := S.R.h1
  obtain ⟨L, hL⟩ : ∃ L, L = HN c - 1 - f.dn := ⟨_, rfl⟩
  rw [← hL] at eL
  rw [eL] at hF
  have SW := hidOf (fun (W : World) (k : Kept [] w W) => (mswap_any m p r c cs cnt a f.pr (6 + L) f.x (plainV f.s) W (S.mm.new k) (S.tb.kept k) S.fi.pr.1 S.fi.pr.2 S.c0 S.c1).mono fun _ _ hh => And.intro hh.1 (And.intro hh.2.1 ((k.weaken (m := [p, r]) (by simp)).trans hh.2.2)))
  have NX := hidOf (fun (W : World) (k : Kept [] w W) => fnext_any b v f.k L f.pr f.x f.s era (some ⟨g, 0, none⟩) (HN c) f.at_ W (hF.kept k (by simp)) (by omega) (by omega))
  have PL := hidOf (fun (W : World) (k : Kept [] w W) => (plain_any f.s W (S.tb.kept k) S.fi.s.1 S.fi.s.2).mono fun _ _ hh => And.intro hh.1 (k.trans hh.2))
  rw [eL]
  obtain ⟨AC, hAC⟩ : ∃ z, z = acV cs 3 (clV' c (ixV f.pr) (6 + (L : Int))) (plainV f.pr) f.x (plainV f.s) := ⟨_, rfl⟩
  rw [← hAC] at SW ⊢
  clear hAC
  obtain ⟨B, hB⟩ : ∃ B, AC.d = B := ⟨_, rfl⟩
  rw [hB] at SW ⊢
  clear hB
  have HP := hidOf (fun (w' : World) (h : B = true) (F3 : FB w' b (ffV 76 b) f.k (L : Int) f.pr f.x f.s era (some ⟨g, 0, none⟩) (HN c) f.at_) (E3 : EB w' g A) => (show FS base w' b c (if B = true then { f with nx := 0 } else f.anew f.at_) from by
    rw [if_pos h]
    exact fs_mid (f := f) S.b0 F3 (by unfold phF; rw [show ({ f with nx := 0 } : Fm).d = false from S.hd]; rfl) E3 hA hg hn rfl rfl rfl rfl (fun _ => eL.symm) (fun _ h => absurd h (by show ¬ 1 ≤ 0; omega)) (fun _ h => absurd h (by show ¬ 0 = 4; omega)) (fun _ h => absurd h (by show ¬ 0 = 2; omega))))
  have HQ := hidOf (fun (w' : World) (h : B = false) (g3 : Nat) (A3 : Array Value) (hg3 : base g3) (F3 : FB w' b (ffV 76 b) f.k (c.h - 1) 9223372036854775808 f.x f.s era (some ⟨g3, 0, none⟩) (HN c) f.at_) (E3 : EB w' g3 A3) (h3 : A3.size = HN c * 3) => (show FS base w' b c (if B = true then { f with nx := 0 } else f.anew f.at_) from by
    rw [if_neg (by rw [h]; decide)]
    exact fs_anew (f := f) S.b0 F3 E3 h3 hg3))
  generalize (if B = true then ({ f with nx := 0 } : Fm) else f.anew f.at_) = Q at HP HQ ⊢
  generalize clV cs 3 (clV' c (ixV f.pr) (6 + (L : Int))) f.x (plainV f.s) = CC at SW ⊢
  generalize plainV f.s = PS at SW PL
  generalize f.pr = P at hF HP NX SW
  generalize f.k = K at hF HP HQ NX
  generalize f.at_ = AT at hF HP HQ NX
  generalize f.x = X at hF HP HQ NX SW
  generalize f.s = SS at hF HP HQ NX PL
  have HN3 := hidOf (And.intro (And.intro n1 (And.intro n2 n3)) (And.intro bgn gnn))
  have HFE := hidOf (And.intro hF hE)
  have HS := hidOf (And.intro S.tb (And.intro S.b0 (And.intro S.bs (And.intro S.R.h0 (show c.h ≤ 100 by have := S.R.h1; omega)))))
  have HM := hidOf S.mm
  have HS0 : Hid (∀ W' : World, Kept [p, r] w W' → W'.cell? ⟨b, 3, none⟩ = some (.int .u64 P) ∧ W'.cell? ⟨b, 4, none⟩ = some (.int .u64 X) ∧ W'.cell? ⟨b, 5, none⟩ = some (.int .u64 SS)) := by
    intro W' k
    have := HN3.out
    have z := k.blk HFE.out.1 (by simp; omega)
    exact ⟨cell_of_blk z (i := 3) rfl, cell_of_blk z (i := 4) rfl, cell_of_blk z (i := 5) rfl⟩
  clear S n1 n2 n3 bgn gnn hg hA hn hE hF eL hL hlt hh h1
  go_enter Tryz.func110, Tryz.ntmps110
  go_wp2_with fail
  go_region_held3 (fun W' => W'.cell? ⟨b, 3, none⟩ = some (.int .u64 P) ∧ W'.cell? ⟨b, 4, none⟩ = some (.int .u64 X) ∧ W'.cell? ⟨b, 5, none⟩ = some (.int .u64 SS))
    (first | exact HS0.out _ (by assumption) | exact HS0.out _ (Kept.weaken (m := [p, r]) (by assumption) (by simp)) | exact HS0.out _ (Kept.refl _ _).drew | exact HS0.out _ (Kept.refl _ _))
    (first
      | (go_at_call 94; refine (NX.out _ (by first | assumption | exact (Kept.refl _ _).drew)).mono ?_; rintro e w5 ⟨rfl, rfl⟩)
      | (go_at_call 22; refine (PL.out _ (by first | assumption | exact (Kept.refl _ _).drew)).mono ?_; rintro e w6 ⟨rfl, K6⟩)
      | (go_at_call 115; refine (SW.out _ (by first | assumption | exact (Kept.refl _ _).drew)).mono ?_; rintro e w7 ⟨rfl, M7, K7⟩))
  all_goals
    have Z := HFE.out.1.kept K7 (by have := HN3.out; simp; omega)
    have z1 := cell_of_blk Z (i := 1) rfl
    have zf := free_of_blk Z
    have zl := lt_of_blk Z
    have HX := hidOf (And.intro Z (And.intro (HFE.out.2.kept K7 (by have := HN3.out; simp; omega)) (And.intro M7 (And.intro (HS.out.1.mm HM.out K7) K7))))
    clear Z M7 K7 SW NX PL HS0 HFE HM
    cases B with
    | true =>
      go_wp2
      go_end0
      obtain ⟨Z, E1, M1, T1, K1⟩ := HX.out
      have ks := (Kept.refl [b] w7).setCell (p := ⟨b, 1, none⟩) (Or.inl (by simp)) (ffV 76 b)
      unfold ffV at ks
      have := HN3.out
      exact ⟨rfl, HP.out _ (by simp) (Z.set1 (ffV 76 b)) (E1.kept ks (by simp; omega)), M1.kept ks (by simp; omega) (by simp; omega) (by simp; omega), FK.of ((K1.weaken (m := [b, gb, p, r]) (by simp; try omega)).then ks (by simp))⟩
    | false =>
      have AN := hidOf (fanew_any b m p r v K L P X SS era (some ⟨g, 0, none⟩) (HN c) AT c CC (cnt + 1) AC w7 HX.out.1 HX.out.2.2.1 HX.out.2.2.2.1 HS.out.2.1 HS.out.2.2.2.1 HS.out.2.2.2.2)
      clear z1 zf zl
      go_wp2_with fail
      refine AN.out.mono ?_
      rintro e w3 ⟨rfl, ⟨g3, A3, hg3, F3, E3, hA3⟩, K3⟩
      have HY := hidOf (And.intro F3 (And.intro E3 (And.intro hA3 (And.intro hg3 K3))))
      clear AN F3 E3 hA3 hg3 K3
      go_wp2
      obtain ⟨F3, E3, hA3, hg3, K3⟩ := HY.out
      obtain ⟨Z, E1, M1, T1, K1⟩ := HX.out
      have := HN3.out
      exact bodyPost_ret (v := .tuple #[]) (by simp [results, Tryz.results110, go_sem]) rfl ⟨rfl, HQ.out _ (by simp) _ _ (HS.out.2.2.1 _ (by have := K1.size; omega)) F3 E3 hA3, M1.kept K3 (by simp; omega) (by simp; omega) (by simp; omega), FK.of ((K1.weaken (m := [b, gb, p, r]) (by simp; try omega)).then K3 (by simp))⟩
end K
end Go.Proofs.YtgafmklfpiipcaaGreatDoor
namespace Go.Proofs.YtgafmklfpiipcaaGreatDoor
open Go.RowKit (Grown Hid Below)
open Go.Deep
namespace K
set_option maxRecDepth 100000
theorem AtS.next {base : Nat → Prop} {w w1 : World} {b m p r : Nat} {c : Cfg} {f : Fm} {cs : List Int} {cnt : Int} {a : Acc} (S : AtS base w b m p r c f cs cnt a) (k : Kept [b] w w1) (nb : ¬ b = m ∧ ¬ b = p ∧ ¬ b = r) : AtS base w1 b m p r c f cs cnt a :=
  ⟨S.R, S.fi, S.hd, S.mm.kept k (by simp; omega) (by simp; omega) (by simp; omega), S.tb.keptL k (by have := S.b0; simp; omega), S.wd, S.b0, S.c0, S.c1, fun z hz => S.bs z (Nat.le_trans k.size hz)⟩
set_option maxHeartbeats 4000000 in
theorem fbegin_any (base : Nat → Prop) (b m p r gb : Nat) (V : Value) (c : Cfg) (f : Fm) (cs : List Int) (cnt : Int) (a : Acc) (w : World) (S : AtS base w b m p r c f cs cnt a) (h : FS0 w b f) :
    Calls Tryz.prog 46 #[.pointer (some ⟨b, 0, none⟩), .pointer (some ⟨m, 0, none⟩), V] w fun e w' => e = .returned (.tuple #[]) ∧ FS base w' b c (if mkB (rdW c cs f) = true then f.anew (atF c cnt f) else if vlB (rdW c cs f) = false then f.ended c (atF c cnt f) 0 0 else { f with x := rdW c cs f, nx := 1, at_ := atF c cnt f }) ∧ Mm w' m p r c cs (cnt + 1) (acV cs 1 (clV' c (ixV f.pr) (6 + lv c f)) (plainV f.pr) 0 0) ∧ FK base [b, gb, p, r] w w' := by
  have nb := h.fb.nm S.mm
  have AN := hidOf (fanew_any b m p r _ f.k 0 0 0 0 0 none 0 0 c cs cnt a w h.fb S.mm S.tb S.b0 S.R.h0 (by have := S.R.h1; omega))
  have e1 : f.pr = 9223372036854775808 := by rw [h.e]; rfl
  have e2 : lv c f = c.h - 1 := by rw [h.e]; show c.h - 1 - ((0 : Nat) : Int) = _; simp
  have e3 : f.at_ = 0 := by rw [h.e]; rfl
  have RD := hidOf (fun (w1 : World) (K : Kept [b] w w1) (g : Nat) (A : Array Value) (hg : w.heap.size ≤ g) (F1 : FB w1 b (ffV 76 b) f.k (c.h - 1) 9223372036854775808 0 0 0 (some ⟨g, 0, none⟩) (HN c) 0) (E1 : EB w1 g A) (hA : A.size = HN c * 3) =>
    (fread_any base b m p r g (ffV 76 b) c f cs cnt a 0 0 0 A w1 (S.next K nb) (by rw [e1, e2, e3]; exact F1) E1 hA (S.bs _ hg) (fun t ht => absurd ht (by rw [h.e]; exact Nat.not_lt_zero _)) gb V).mono fun _ _ hh => And.intro hh.1 (And.intro hh.2.1 (And.intro hh.2.2.1 ((FK.of (K.weaken (m := [b, gb, p, r]) (by simp))).then hh.2.2.2))))
  generalize (if mkB (rdW c cs f) = true then f.anew (atF c cnt f) else if vlB (rdW c cs f) = false then f.ended c (atF c cnt f) 0 0 else { f with x := rdW c cs f, nx := 1, at_ := atF c cnt f }) = Q at RD ⊢
  generalize acV cs 1 (clV' c (ixV f.pr) (6 + lv c f)) (plainV f.pr) 0 0 = AC at RD ⊢
  generalize f.k = K at AN RD
  clear S h e1 e2 e3 nb
  go_enter Tryz.func46, Tryz.ntmps46
  go_wp2_with fail
  refine AN.out.mono ?_
  rintro e w1 ⟨rfl, ⟨g, A, hg, F1, E1, hA⟩, K1⟩
  have R1 := hidOf (RD.out w1 K1 g A hg F1 E1 hA)
  clear AN RD hg F1 E1 hA K1
  go_wp2_with fail
  refine R1.out.mono ?_
  rintro e w2 ⟨rfl, X⟩
  have HX := hidOf X
  clear R1 X
  go_wp2
  go_end0
  exact ⟨rfl, HX.out⟩
set_option maxHeartbeats 2000000 in
theorem fstep_begin (b m gb : Nat) (k lv pr x s era : Int) (ao : Option Addr) (n : Nat) (at_ : Int) (w : World) (R : World → Prop) (hF : FB w b (ffV 46 b) k lv pr x s era ao n at_) (hc : Calls Tryz.prog 46 #[.pointer (some ⟨b, 0, none⟩), .pointer (some ⟨m, 0, none⟩), .pointer (some ⟨gb, 0, none⟩)] w fun e w' => e = .returned (.tuple #[]) ∧ R w') :
    Calls Tryz.prog 80 #[.pointer (some ⟨b, 0, none⟩), .pointer (some ⟨m, 0, none⟩), .pointer (some ⟨gb, 0, none⟩)] w fun e w' => e = .returned (.tuple #[]) ∧ R w' := by
  have DN := hidOf (fdone_no b 46 k lv pr x s era ao n at_ w hF)
  have q1 := cell_of_blk hF (i := 1) rfl
  unfold ffV at q1
  have HC := hidOf hc
  clear hc hF
  go_enter Tryz.func80, Tryz.ntmps80
  go_wp2_with fail
  refine DN.out.mono ?_
  rintro e w1 ⟨rfl, rfl⟩
  go_wp2_with fail
  refine HC.out.mono ?_
  rintro e w2 ⟨rfl, X⟩
  have HX := hidOf X
  clear HC DN X q1
  go_wp2
  go_end0
  exact ⟨rfl, HX.out⟩
set_option maxHeartbeats 2000000 in
theorem fstep_read (b m gb : Nat) (k lv pr x s era : Int) (ao : Option Addr) (n : Nat) (at_ : Int) (w : World) (R : World → Prop) (hF : FB w b (ffV 76 b) k lv pr x s era ao n at_) (hc : Calls Tryz.prog 76 #[.pointer (some ⟨b, 0, none⟩), .pointer (some ⟨m, 0, none⟩), .pointer (some ⟨gb, 0, none⟩)] w fun e w' => e = .returned (.tuple #[]) ∧ R w') :
    Calls Tryz.prog 80 #[.pointer (some ⟨b, 0, none⟩), .pointer (some ⟨m, 0, none⟩), .pointer (some ⟨gb, 0, none⟩)] w fun e w' => e = .returned (.tuple #[]) ∧ R w' := by
  have DN := hidOf (fdone_no b 76 k lv pr x s era ao n at_ w hF)
  have q1 := cell_of_blk hF (i := 1) rfl
  unfold ffV at q1
  have HC := hidOf hc
  clear hc hF
  go_enter Tryz.func80, Tryz.ntmps80
  go_wp2_with fail
  refine DN.out.mono ?_
  rintro e w1 ⟨rfl, rfl⟩
  go_wp2_with fail
  refine HC.out.mono ?_
  rintro e w2 ⟨rfl, X⟩
  have HX := hidOf X
  clear HC DN X q1
  go_wp2
  go_end0
  exact ⟨rfl, HX.out⟩
set_option maxHeartbeats 2000000 in
theorem fstep_check (b m gb : Nat) (k lv pr x s era : Int) (ao : Option Addr) (n : Nat) (at_ : Int) (w : World) (R : World → Prop) (hF : FB w b (ffV 98 b) k lv pr x s era ao n at_) (hc : Calls Tryz.prog 98 #[.pointer (some ⟨b, 0, none⟩), .pointer (some ⟨m, 0, none⟩), .pointer (some ⟨gb, 0, none⟩)] w fun e w' => e = .returned (.tuple #[]) ∧ R w') :
    Calls Tryz.prog 80 #[.pointer (some ⟨b, 0, none⟩), .pointer (some ⟨m, 0, none⟩), .pointer (some ⟨gb, 0, none⟩)] w fun e w' => e = .returned (.tuple #[]) ∧ R w' := by
  have DN := hidOf (fdone_no b 98 k lv pr x s era ao n at_ w hF)
  have q1 := cell_of_blk hF (i := 1) rfl
  unfold ffV at q1
  have HC := hidOf hc
  clear hc hF
  go_enter Tryz.func80, Tryz.ntmps80
  go_wp2_with fail
  refine DN.out.mono ?_
  rintro e w1 ⟨rfl, rfl⟩
  go_wp2_with fail
  refine HC.out.mono ?_
  rintro e w2 ⟨rfl, X⟩
  have HX := hidOf X
  clear HC DN X q1
  go_wp2
  go_end0
  exact ⟨rfl, HX.out⟩
set_option maxHeartbeats 2000000 in
theorem fstep_publish (b m gb : Nat) (k lv pr x s era : Int) (ao : Option Addr) (n : Nat) (at_ : Int) (w : World) (R : World → Prop) (hF : FB w b (ffV 106 b) k lv pr x s era ao n at_) (hc : Calls Tryz.prog 106 #[.pointer (some ⟨b, 0, none⟩), .pointer (some ⟨m, 0, none⟩), .pointer (some ⟨gb, 0, none⟩)] w fun e w' => e = .returned (.tuple #[]) ∧ R w') :
    Calls Tryz.prog 80 #[.pointer (some ⟨b, 0, none⟩), .pointer (some ⟨m, 0, none⟩), .pointer (some ⟨gb, 0, none⟩)] w fun e w' => e = .returned (.tuple #[]) ∧ R w' := by
  have DN := hidOf (fdone_no b 106 k lv pr x s era ao n at_ w hF)
  have q1 := cell_of_blk hF (i := 1) rfl
  unfold ffV at q1
  have HC := hidOf hc
  clear hc hF
  go_enter Tryz.func80, Tryz.ntmps80
  go_wp2_with fail
  refine DN.out.mono ?_
  rintro e w1 ⟨rfl, rfl⟩
  go_wp2_with fail
  refine HC.out.mono ?_
  rintro e w2 ⟨rfl, X⟩
  have HX := hidOf X
  clear HC DN X q1
  go_wp2
  go_end0
  exact ⟨rfl, HX.out⟩
set_option maxHeartbeats 2000000 in
theorem fstep_peek (b m gb : Nat) (k lv pr x s era : Int) (ao : Option Addr) (n : Nat) (at_ : Int) (w : World) (R : World → Prop) (hF : FB w b (ffV 105 b) k lv pr x s era ao n at_) (hc : Calls Tryz.prog 105 #[.pointer (some ⟨b, 0, none⟩), .pointer (some ⟨m, 0, none⟩), .pointer (some ⟨gb, 0, none⟩)] w fun e w' => e = .returned (.tuple #[]) ∧ R w') :
    Calls Tryz.prog 80 #[.pointer (some ⟨b, 0, none⟩), .pointer (some ⟨m, 0, none⟩), .pointer (some ⟨gb, 0, none⟩)] w fun e w' => e = .returned (.tuple #[]) ∧ R w' := by
  have DN := hidOf (fdone_no b 105 k lv pr x s era ao n at_ w hF)
  have q1 := cell_of_blk hF (i := 1) rfl
  unfold ffV at q1
  have HC := hidOf hc
  clear hc hF
  go_enter Tryz.func80, Tryz.ntmps80
  go_wp2_with fail
  refine DN.out.mono ?_
  rintro e w1 ⟨rfl, rfl⟩
  go_wp2_with fail
  refine HC.out.mono ?_
  rintro e w2 ⟨rfl, X⟩
  have HX := hidOf X
  clear HC DN X q1
  go_wp2
  go_end0
  exact ⟨rfl, HX.out⟩
set_option maxHeartbeats 2000000 in
theorem fstep_unlink (b m gb : Nat) (k lv pr x s era : Int) (ao : Option Addr) (n : Nat) (at_ : Int) (w : World) (R : World → Prop) (hF : FB w b (ffV 110 b) k lv pr x s era ao n at_) (hc : Calls Tryz.prog 110 #[.pointer (some ⟨b, 0, none⟩), .pointer (some ⟨m, 0, none⟩), .pointer (some ⟨gb, 0, none⟩)] w fun e w' => e = .returned (.tuple #[]) ∧ R w') :
    Calls Tryz.prog 80 #[.pointer (some ⟨b, 0, none⟩), .pointer (some ⟨m, 0, none⟩), .pointer (some ⟨gb, 0, none⟩)] w fun e w' => e = .returned (.tuple #[]) ∧ R w' := by
  have DN := hidOf (fdone_no b 110 k lv pr x s era ao n at_ w hF)
  have q1 := cell_of_blk hF (i := 1) rfl
  unfold ffV at q1
  have HC := hidOf hc
  clear hc hF
  go_enter Tryz.func80, Tryz.ntmps80
  go_wp2_with fail
  refine DN.out.mono ?_
  rintro e w1 ⟨rfl, rfl⟩
  go_wp2_with fail
  refine HC.out.mono ?_
  rintro e w2 ⟨rfl, X⟩
  have HX := hidOf X
  clear HC DN X q1
  go_wp2
  go_end0
  exact ⟨rfl, HX.out⟩
set_option maxHeartbeats 2000000 in
theorem fstep_key (b m gb : Nat) (k lv pr x s era : Int) (ao : Option Addr) (n : Nat) (at_ : Int) (w : World) (R : World → Prop) (hF : FB w b (ffV 111 b) k lv pr x s era ao n at_) (hc : Calls Tryz.prog 111 #[.pointer (some ⟨b, 0, none⟩), .pointer (some ⟨m, 0, none⟩), .pointer (some ⟨gb, 0, none⟩)] w fun e w' => e = .returned (.tuple #[]) ∧ R w') :
    Calls Tryz.prog 80 #[.pointer (some ⟨b, 0, none⟩), .pointer (some ⟨m, 0, none⟩), .pointer (some ⟨gb, 0, none⟩)] w fun e w' => e = .returned (.tuple #[]) ∧ R w' := by
  have DN := hidOf (fdone_no b 111 k lv pr x s era ao n at_ w hF)
  have q1 := cell_of_blk hF (i := 1) rfl
  unfold ffV at q1
  have HC := hidOf hc
  clear hc hF
  go_enter Tryz.func80, Tryz.ntmps80
  go_wp2_with fail
  refine DN.out.mono ?_
  rintro e w1 ⟨rfl, rfl⟩
  go_wp2_with fail
  refine HC.out.mono ?_
  rintro e w2 ⟨rfl, X⟩
  have HX := hidOf X
  clear HC DN X q1
  go_wp2
  go_end0
  exact ⟨rfl, HX.out⟩
set_option maxHeartbeats 2000000 in
theorem fstep_done (b : Nat) (U V : Value) (k lv pr x s era : Int) (ao : Option Addr) (n : Nat) (at_ : Int) (w : World) (hF : FB w b .nilFunc k lv pr x s era ao n at_) :
    Calls Tryz.prog 80 #[.pointer (some ⟨b, 0, none⟩), U, V] w fun e w' => e = .returned (.tuple #[]) ∧ w' = w := by
  have DN := hidOf (fdone_yes b k lv pr x s era ao n at_ w hF)
  clear hF
  go_enter Tryz.func80, Tryz.ntmps80
  go_wp2_with fail
  refine DN.out.mono ?_
  rintro e w1 ⟨rfl, rfl⟩
  clear DN
  go_wp2
  go_end0
  exact ⟨rfl, rfl⟩
/-- What holds of a find, its guard and the words. -/
structure St (base : Nat → Prop) (w : World) (b gb m p r : Nat) (c : Cfg) (g : Gs) (f : Fm) (cs : List Int) (cnt : Int) (a : Acc) : Prop where
  R : Rt c
  fs : FS base w b c f
  gd : GB w gb g
  mm : Mm w m p r c cs cnt a
  tb : Tab w
  fi : FI c f
  wd : Wds cs
  u0 : 0 ≤ g.u
  u1 : g.u ≤ c.s
  g0 : 0 < gb
  bs : ∀ z, w.heap.size ≤ z → base z
theorem St.done {base : Nat → Prop} {w : World} {b gb m p r : Nat} {c : Cfg} {g : Gs} {f : Fm} {cs : List Int} {cnt : Int} {a : Acc} (h : St base w b gb m p r c g f cs cnt a) :
    Calls Tryz.prog 81 #[.pointer (some ⟨b, 0, none⟩)] w fun e w' => e = .returned (.bool f.d) ∧ w' = w := by
  rcases h.fs.2 with z | ⟨x, s, era, lw, gg, A, z⟩
  · have e : f.d = false := by rw [z.e]; rfl
    rw [e]; exact fdone_no _ _ _ _ _ _ _ _ _ _ _ w z.fb
  · have F := z.fb
    cases e : f.d with
    | true =>
      unfold phF at F; rw [if_pos e] at F
      exact fdone_yes _ _ _ _ _ _ _ _ _ _ w F
    | false =>
      have ph : ∃ k, phF f b = ffV k b := by
        unfold phF; rw [if_neg (by rw [e]; decide)]
        split <;> exact ⟨_, rfl⟩
      obtain ⟨k, hk⟩ := ph
      rw [hk] at F
      exact fdone_no _ _ _ _ _ _ _ _ _ _ _ w F
theorem fs_gb {base : Nat → Prop} {w : World} {b gb : Nat} {c : Cfg} {f : Fm} {g : Gs} (h : FS base w b c f) (G : GB w gb g) : ¬ gb = b := by
  rcases h.2 with z | ⟨x, s, era, lw, gg, A, z⟩
  · exact fun e => z.fb.ng G e.symm
  · exact fun e => z.fb.ng G e.symm
theorem fs_nm {base : Nat → Prop} {w : World} {b m p r : Nat} {c : Cfg} {f : Fm} {cs : List Int} {cnt : Int} {a : Acc} (h : FS base w b c f) (M : Mm w m p r c cs cnt a) : ¬ b = m ∧ ¬ b = p ∧ ¬ b = r := by
  rcases h.2 with z | ⟨x, s, era, lw, gg, A, z⟩
  · exact z.fb.nm M
  · exact z.fb.nm M
theorem FK.weaken {base : Nat → Prop} {bs bs' : List Nat} {w w' : World} (h : FK base bs w w') (hb : ∀ x ∈ bs, x ∈ bs') : FK base bs' w w' := by
  obtain ⟨l, k, c⟩ := h
  exact ⟨l, k, fun z hz => (c z hz).imp (hb z) id⟩
/-- A step that leaves the guard alone. -/
theorem no_guard {base : Nat → Prop} {b gb m p r : Nat} {c : Cfg} {g : Gs} {Q : Fm} {A : Acc} {F : Nat} {args : Array Value} {w : World} {CC : List Int} {c' : Int} (G : GB w gb g) (ngb : ¬ gb = b) (gm : ¬ gb = m ∧ ¬ gb = p ∧ ¬ gb = r)
    (h : Calls Tryz.prog F args w fun e w' => e = .returned (.tuple #[]) ∧ FS base w' b c Q ∧ Mm w' m p r c CC c' A ∧ FK base [b, b, p, r] w w') :
    Calls Tryz.prog F args w fun e w' => e = .returned (.tuple #[]) ∧ FS base w' b c Q ∧ Mm w' m p r c CC c' A ∧ GB w' gb g ∧ FK base [b, gb, p, r] w w' :=
  h.mono fun _ _ hh => ⟨hh.1, hh.2.1, hh.2.2.1, hh.2.2.2.blk G (by decide) (by simp; omega), hh.2.2.2.weaken (by simp)⟩
set_option maxHeartbeats 2000000 in
theorem fstep_any {base : Nat → Prop} {w : World} {b gb m p r : Nat} {c : Cfg} {g : Gs} {f : Fm} {cs : List Int} {cnt : Int} {a : Acc} (h : St base w b gb m p r c g f cs cnt a) (c0 : 0 ≤ cnt) (c1 : cnt < 4611686018427387904) :
    Calls Tryz.prog 80 #[.pointer (some ⟨b, 0, none⟩), .pointer (some ⟨m, 0, none⟩), .pointer (some ⟨gb, 0, none⟩)] w fun e w' => e = .returned (.tuple #[]) ∧ FS base w' b c (fF c cs cnt g f) ∧ Mm w' m p r c (fC c cs g f) (fN cnt f) (fA c cs g f a) ∧ GB w' gb (fG c g f) ∧ FK base [b, gb, p, r] w w' := by
  by_cases hd : f.d = true
  · obtain ⟨e1, e2, e3⟩ := fF_done (c := c) (cs := cs) (cnt := cnt) (g := g) hd
    have e4 : fN cnt f = cnt := if_pos hd
    have e5 : fA c cs g f a = a := if_pos hd
    rw [e1, e2, e3, e4, e5]
    rcases h.fs.2 with z | ⟨x, s, era, lw, gg, A, z⟩
    · rw [z.e] at hd; exact absurd hd (by show ¬ false = true; decide)
    · have F := z.fb
      unfold phF at F; rw [if_pos hd] at F
      exact (fstep_done b _ _ _ _ _ _ _ _ _ _ _ w F).mono fun _ _ hh => ⟨hh.1, by rw [hh.2]; exact ⟨h.fs, h.mm, h.gd, FK.of (Kept.refl _ _)⟩⟩
  · have hd' : f.d = false := by simpa using hd
    have S : AtS base w b m p r c f cs cnt a := ⟨h.R, h.fi, hd', h.mm, h.tb, h.wd, h.fs.1, c0, c1, h.bs⟩
    have ngb := fs_gb h.fs h.gd
    have gm := h.gd.nm h.mm
    have e4 : fN cnt f = cnt + 1 := if_neg hd
    have eC : f.nx ≠ 2 → f.nx ≠ 4 → fC c cs g f = cs := fun h2 h4 => by unfold fC; rw [if_neg hd, if_neg h2, if_neg h4]
    have eG : f.nx ≠ 2 → fG c g f = g := fun h2 => by unfold fG; rw [if_neg hd, if_neg h2]
    rw [e4]
    rcases h.fs.2 with z | ⟨x, s, era, lw, gg, A, z⟩
    · have e0 : f.nx = 0 := by rw [z.e]; rfl
      have eF : fF c cs cnt g f = if mkB (rdW c cs f) = true then f.anew (atF c cnt f) else if vlB (rdW c cs f) = false then f.ended c (atF c cnt f) 0 0 else { f with x := rdW c cs f, nx := 1, at_ := atF c cnt f } := by unfold fF; rw [if_neg hd, e0]; rfl
      have eA : fA c cs g f a = acV cs 1 (clV' c (ixV f.pr) (6 + lv c f)) (plainV f.pr) 0 0 := by unfold fA; rw [if_neg hd, e0]; rfl
      rw [eF, eC (by omega) (by omega), eG (by omega), eA]
      exact fstep_begin _ _ _ _ _ _ _ _ _ _ _ _ w _ z.fb (no_guard h.gd ngb gm (fbegin_any base b m p r b _ c f cs cnt a w S z))
    · have F := z.fb
      have hl := z.lw hd'
      subst hl
      have ph : phF f b = match f.nx with
        | 0 => ffV 76 b
        | 1 => ffV 98 b
        | 2 => ffV 106 b
        | 3 => ffV 105 b
        | 4 => ffV 110 b
        | _ => ffV 111 b := if_neg hd
      rcases (by have := h.fi.nx; omega : f.nx = 0 ∨ f.nx = 1 ∨ f.nx = 2 ∨ f.nx = 3 ∨ f.nx = 4 ∨ f.nx = 5) with e | e | e | e | e | e
      · have eF : fF c cs cnt g f = if mkB (rdW c cs f) = true then f.anew (atF c cnt f) else if vlB (rdW c cs f) = false then f.ended c (atF c cnt f) 0 0 else { f with x := rdW c cs f, nx := 1, at_ := atF c cnt f } := by unfold fF; rw [if_neg hd, e]; rfl
        have eA : fA c cs g f a = acV cs 1 (clV' c (ixV f.pr) (6 + lv c f)) (plainV f.pr) 0 0 := by unfold fA; rw [if_neg hd, e]; rfl
        rw [eF, eC (by omega) (by omega), eG (by omega), eA]
        rw [ph, e] at F
        exact fstep_read _ _ _ _ _ _ _ _ _ _ _ _ w _ F (no_guard h.gd ngb gm (fread_any base b m p r gg _ c f cs cnt a x s era A w S F z.eb z.hA z.hg z.nt b _))
      · have eF : fF c cs cnt g f = { f with era := rdG cs 0, nx := if rdG cs 0 = g.l then 3 else 2 } := by unfold fF; rw [if_neg hd, e]; rfl
        have eA : fA c cs g f a = acV cs 1 0 0 0 0 := by unfold fA; rw [if_neg hd, e]; rfl
        rw [eF, eC (by omega) (by omega), eG (by omega), eA]
        rw [ph, e, z.hx hd' (by omega) (by omega)] at F
        exact fstep_check _ _ _ _ _ _ _ _ _ _ _ _ w _ F (fcheck_any base b m p r gg gb _ c f cs cnt a g s era A w S F z.eb z.hA z.hg z.nt h.gd)
      · have eF : fF c cs cnt g f = if g.u < c.s then { f with nx := 0 } else f.anew f.at_ := by unfold fF; rw [if_neg hd, e]; rfl
        have eA : fA c cs g f a = acV cs 2 (rsV c g.t (pubN c g)) 0 0 f.era := by unfold fA; rw [if_neg hd, e]; rfl
        have eC2 : fC c cs g f = clV cs 2 (rsV c g.t (pubN c g)) 0 f.era := by unfold fC; rw [if_neg hd, if_pos e]
        have eG2 : fG c g f = pubG c g f.era := by unfold fG; rw [if_neg hd, if_pos e]
        rw [eF, eC2, eG2, eA]
        rw [ph, e, z.he hd' e] at F
        exact fstep_publish _ _ _ _ _ _ _ _ _ _ _ _ w _ F (fpublish_any base b m p r gg gb _ c f cs cnt a g x s A w S F z.eb z.hA z.hg z.nt h.gd h.u0 (by have := h.u1; have := h.R.s1; omega) h.g0)
      · have eF : fF c cs cnt g f = { f with s := fd c cs (ixV f.x) (6 + lv c f), nx := if mkB (fd c cs (ixV f.x) (6 + lv c f)) = true then 4 else 5 } := by unfold fF; rw [if_neg hd, e]; rfl
        have eA : fA c cs g f a = acV cs 1 (clV' c (ixV f.x) (6 + lv c f)) (plainV f.x) 0 0 := by unfold fA; rw [if_neg hd, e]; rfl
        rw [eF, eC (by omega) (by omega), eG (by omega), eA]
        rw [ph, e, z.hx hd' (by omega) (by omega)] at F
        exact fstep_peek _ _ _ _ _ _ _ _ _ _ _ _ w _ F (no_guard h.gd ngb gm (fpeek_any base b m p r gg b _ _ c f cs cnt a s era A w S F z.eb z.hA z.hg z.nt))
      · have eF : fF c cs cnt g f = if (acV cs 3 (clV' c (ixV f.pr) (6 + lv c f)) (plainV f.pr) f.x (plainV f.s)).d = true then { f with nx := 0 } else f.anew f.at_ := by unfold fF; rw [if_neg hd, e]; rfl
        have eA : fA c cs g f a = acV cs 3 (clV' c (ixV f.pr) (6 + lv c f)) (plainV f.pr) f.x (plainV f.s) := by unfold fA; rw [if_neg hd, e]; rfl
        have eC2 : fC c cs g f = clV cs 3 (clV' c (ixV f.pr) (6 + lv c f)) f.x (plainV f.s) := by unfold fC; rw [if_neg hd, if_neg (by omega), if_pos e]
        rw [eF, eC2, eG (by omega), eA]
        rw [ph, e, z.hx hd' (by omega) (by omega), z.hs hd' e] at F
        exact fstep_unlink _ _ _ _ _ _ _ _ _ _ _ _ w _ F (no_guard h.gd ngb gm (funlink_any base b m p r gg b _ _ c f cs cnt a era A w S F z.eb z.hA z.hg z.nt))
      · have eF : fF c cs cnt g f = if f.k ≤ fd c cs (ixV f.x) 1 then f.ended c f.at_ f.x (fd c cs (ixV f.x) 1) else { f with pr := f.x, nx := 0 } := by unfold fF; rw [if_neg hd, e]; rfl
        have eA : fA c cs g f a = acV cs 1 (clV' c (ixV f.x) 1) (plainV f.x) 0 0 := by unfold fA; rw [if_neg hd, e]; rfl
        rw [eF, eC (by omega) (by omega), eG (by omega), eA]
        rw [ph, e, z.hx hd' (by omega) (by omega)] at F
        exact fstep_key _ _ _ _ _ _ _ _ _ _ _ _ w _ F (no_guard h.gd ngb gm (fkey_any base b m p r gg b _ _ c f cs cnt a s era A w S F z.eb z.hA z.hg z.nt))
end K
end Go.Proofs.YtgafmklfpiipcaaGreatDoor
namespace Go.Proofs.YtgafmklfpiipcaaGreatDoor
open Go.RowKit (Grown Hid Below)
open Go.Deep
namespace K
set_option maxRecDepth 100000
/-- A level's part of a row that has the highest one first. -/
def enV (d : Bool) (xs : List Int) (l : Int) : Int := if d = true ∧ 0 ≤ l ∧ l < xs.length then xs.getD (xs.length - 1 - l.toNat) 0 else 0
/-- A find, whatever the words are. -/
structure Sf (base : Nat → Prop) (w : World) (b : Nat) (c : Cfg) (f : Fm) : Prop where
  R : Rt c
  fs : FS base w b c f
  fi : FI c f
theorem St.sf {base : Nat → Prop} {w : World} {b gb m p r : Nat} {c : Cfg} {g : Gs} {f : Fm} {cs : List Int} {cnt : Int} {a : Acc} (h : St base w b gb m p r c g f cs cnt a) : Sf base w b c f := ⟨h.R, h.fs, h.fi⟩
theorem Sf.new {base : Nat → Prop} {w w' : World} {b : Nat} {c : Cfg} {f : Fm} (h : Sf base w b c f) (k : Kept [] w w') : Sf base w' b c f := ⟨h.R, h.fs.new k, h.fi⟩
theorem Sf.far {base b2 : Nat → Prop} {w w' : World} {b : Nat} {c : Cfg} {f : Fm} {bs : List Nat} (h : Sf base w b c f) (k : FK b2 bs w w') (h2 : ∀ z, b2 z → w.heap.size ≤ z) (hb : b ∉ bs) (hg : ∀ g A, EB w g A → g ∉ bs) : Sf base w' b c f := by
  obtain ⟨l, kk, hl⟩ := k
  obtain ⟨hp, q | ⟨x, s, era, lw, gg, A, q⟩⟩ := h.fs
  · exact ⟨h.R, ⟨hp, Or.inl ⟨q.fb.kept kk (fun z => by
      rcases hl b z with y | y | ⟨y, _⟩
      · exact hb y
      · have := lt_of_blk q.fb; omega
      · have := lt_of_blk q.fb; have := h2 _ y; omega), q.e⟩⟩, h.fi⟩
  · refine ⟨h.R, ⟨hp, Or.inr ⟨x, s, era, lw, gg, A, q.fb.kept kk (fun z => ?_), RW.kept q.eb kk (fun z => ?_), q.hA, q.hg, q.nt, q.lw, q.hx, q.hs, q.he⟩⟩, h.fi⟩
    · rcases hl b z with y | y | ⟨y, _⟩
      · exact hb y
      · have := lt_of_blk q.fb; omega
      · have := lt_of_blk q.fb; have := h2 _ y; omega
    · rcases hl gg z with y | y | ⟨y, _⟩
      · exact hg gg A q.eb y
      · have := lt_of_blk q.eb; omega
      · have := lt_of_blk q.eb; have := h2 _ y; omega
/-- The row in which a find notes how levels ended. -/
def RowOf (w : World) (b g : Nat) : Prop := ∃ v k lv pr x s era n a, FB w b v k lv pr x s era (some ⟨g, 0, none⟩) n a
theorem RowOf.same {w : World} {b g g' : Nat} (h : RowOf w b g) (h' : RowOf w b g') : g = g' := by
  obtain ⟨_, _, _, _, _, _, _, _, _, h⟩ := h
  obtain ⟨_, _, _, _, _, _, _, _, _, h'⟩ := h'
  unfold FB at h h'
  rw [h] at h'; simp at h'; exact h'.2.2.2.2.2.2.2.1.1
/-- A find's step keeps another find, whose row is not among those that it may write. -/
theorem FS.apart {base b2 : Nat → Prop} {w w' : World} {b : Nat} {c : Cfg} {f : Fm} {bs : List Nat} (h : FS base w b c f) (k : FK b2 bs w w') (hb : b ∉ bs) (hr : ∀ g, RowOf w b g → ¬ b2 g) (hg : ∀ g A, EB w g A → g ∉ bs) : FS base w' b c f ∧ ∀ g, RowOf w' b g → RowOf w b g := by
  have kb : ∀ {A : Array Value}, w.heap[b]? = some (.cells A 113 (0, 0)) → w'.heap[b]? = some (.cells A 113 (0, 0)) := fun e => k.blk e (by decide) hb
  obtain ⟨l, kk, hl⟩ := k
  obtain ⟨hp, q | ⟨x, s, era, lw, gg, A, q⟩⟩ := h
  · refine ⟨⟨hp, Or.inl ⟨kb q.fb, q.e⟩⟩, fun g hg2 => ?_⟩
    obtain ⟨_, _, _, _, _, _, _, _, _, hg2⟩ := hg2
    have z := kb q.fb
    unfold FB at hg2; rw [z] at hg2; simp at hg2
  · refine ⟨⟨hp, Or.inr ⟨x, s, era, lw, gg, A, kb q.fb, RW.kept q.eb kk (fun z => ?_), q.hA, q.hg, q.nt, q.lw, q.hx, q.hs, q.he⟩⟩, fun g hg2 => ?_⟩
    · rcases hl gg z with y | y | ⟨y, _⟩
      · exact hg gg A q.eb y
      · have := lt_of_blk q.eb; omega
      · exact hr gg ⟨_, _, _, _, _, _, _, _, _, q.fb⟩ y
    · obtain ⟨_, _, _, _, _, _, _, _, _, hg2⟩ := hg2
      have z := kb q.fb
      unfold FB at hg2; rw [z] at hg2; simp at hg2
      have e := hg2.2.2.2.2.2.2.2.1.1
      rw [← e]
      exact ⟨_, _, _, _, _, _, _, _, _, q.fb⟩
theorem Sf.done {base : Nat → Prop} {w : World} {b : Nat} {c : Cfg} {f : Fm} (h : Sf base w b c f) :
    Calls Tryz.prog 81 #[.pointer (some ⟨b, 0, none⟩)] w fun e w' => e = .returned (.bool f.d) ∧ w' = w := by
  rcases h.fs.2 with z | ⟨x, s, era, lw, gg, A, z⟩
  · have e : f.d = false := by rw [z.e]; rfl
    rw [e]; exact fdone_no _ _ _ _ _ _ _ _ _ _ _ w z.fb
  · have F := z.fb
    cases e : f.d with
    | true =>
      unfold phF at F; rw [if_pos e] at F
      exact fdone_yes _ _ _ _ _ _ _ _ _ _ w F
    | false =>
      have ph : ∃ k, phF f b = ffV k b := by
        unfold phF; rw [if_neg (by rw [e]; decide)]
        split <;> exact ⟨_, rfl⟩
      obtain ⟨k, hk⟩ := ph
      rw [hk] at F
      exact fdone_no _ _ _ _ _ _ _ _ _ _ _ w F
end K
end Go.Proofs.YtgafmklfpiipcaaGreatDoor
namespace Go.Proofs.YtgafmklfpiipcaaGreatDoor
open Go.RowKit (Grown Hid Below)
open Go.Deep
namespace K
set_option maxRecDepth 100000
theorem enV_map (n : Nat) (u : Nat → Int) {L : Nat} (hL : L < n) : enV true ((List.range n).map u) L = u (n - 1 - L) := by
  unfold enV
  rw [if_pos ⟨rfl, by omega, by simp; omega⟩]
  simp only [List.length_map, List.length_range, Int.toNat_natCast]
  rw [List.getD_eq_getElem?_getD, List.getElem?_map, List.getElem?_range (by omega)]; rfl
theorem Iv.tells {c : Cfg} {l : Nd} {k : Int} {cs : List Int} {f : Fm} {N : Nat → Nat → Nat} {rp rs : Nat → Nat} {pp : Nat} (h : Iv c l k cs f N rp rs pp) (hd : f.d = true) {L : Nat} (hL : L < HN c) :
    enV true f.ps L = hw (rp (HN c - 1 - L)) ∧ enV true f.ss L = nw l.n (rs (HN c - 1 - L)) false ∧ enV true f.ks L = if rs (HN c - 1 - L) ≤ l.n then l.K (rs (HN c - 1 - L)) else 0 := by
  have hdn := h.done hd
  rw [h.ps, h.ss, h.ks, hdn]
  exact ⟨enV_map _ _ hL, enV_map _ _ hL, enV_map _ _ hL⟩
theorem Iv.noted {c : Cfg} {l : Nd} {k : Int} {cs : List Int} {f : Fm} {N : Nat → Nat → Nat} {rp rs : Nat → Nat} {pp : Nat} (h : Iv c l k cs f N rp rs pp) (hd : f.d = true) {L : Nat} (hL : L < HN c) :
    Rs l k N L (stt rp (HN c - 1 - L)) (rp (HN c - 1 - L)) (rs (HN c - 1 - L)) := by
  have hdn := h.done hd
  have r := h.res (HN c - 1 - L) (by omega)
  rw [show HN c - 1 - (HN c - 1 - L) = L by omega] at r
  exact r
end K
end Go.Proofs.YtgafmklfpiipcaaGreatDoor
