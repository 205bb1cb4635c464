/-
  The small call that each law of mem ends with answers true, in any world whose table reads as the text lays it, and leaves what was there.
-/
import Derived.Test.YtahdhekbancapaaDoorMNew
namespace Go.Proofs.YtahdhekbancapaaDoor
open Go.RowKit (Grown Hid Below)
open Go.Deep
set_option maxRecDepth 100000
abbrev alC : Cfg := ⟨1, 1, 1, 1, 1, 1, 9⟩
theorem fc_al : fcV alC = [1, 0, 1, 0, 0, 0, 1, 0, 0, 0, 0, 0, 0, 0, 0, 0] := by decide
theorem al0 (m p r : Nat) (w : World) (hM : Mm w m p r alC [1, 0, 1, 0, 0, 0, 1, 0, 0, 0, 0, 0, 0, 0, 0, 0] 0 Acc.zero) :
    Calls Tryd.prog 31 #[.pointer (some ⟨m, 0, none⟩)] w fun e w' => e = .returned (.int .u64 1) ∧ Mm w' m p r alC [1, 0, 1, 0, 0, 0, 1, 0, 0, 0, 0, 0, 0, 0, 0, 0] 1 ⟨1, 0, 0, 1, 1, true⟩ ∧ Kept [p, r] w w' :=
  mclock_any m p r alC [1, 0, 1, 0, 0, 0, 1, 0, 0, 0, 0, 0, 0, 0, 0, 0] 0 Acc.zero  w hM (by decide) (by decide)
theorem al1 (m p r : Nat) (w : World) (hM : Mm w m p r alC [1, 0, 1, 0, 0, 0, 1, 0, 0, 0, 0, 0, 0, 0, 0, 0] 1 ⟨1, 0, 0, 1, 1, true⟩) :
    Calls Tryd.prog 32 #[.pointer (some ⟨m, 0, none⟩)] w fun e w' => e = .returned (.int .u64 1) ∧ Mm w' m p r alC [2, 0, 1, 0, 0, 0, 1, 0, 0, 0, 0, 0, 0, 0, 0, 0] 2 ⟨4, 0, 0, 1, 2, true⟩ ∧ Kept [p, r] w w' :=
  mtick_any m p r alC [1, 0, 1, 0, 0, 0, 1, 0, 0, 0, 0, 0, 0, 0, 0, 0] 1 ⟨1, 0, 0, 1, 1, true⟩  w hM (by decide) (by decide)
theorem al2 (m p r : Nat) (w : World) (hM : Mm w m p r alC [2, 0, 1, 0, 0, 0, 1, 0, 0, 0, 0, 0, 0, 0, 0, 0] 2 ⟨4, 0, 0, 1, 2, true⟩) :
    Calls Tryd.prog 31 #[.pointer (some ⟨m, 0, none⟩)] w fun e w' => e = .returned (.int .u64 2) ∧ Mm w' m p r alC [2, 0, 1, 0, 0, 0, 1, 0, 0, 0, 0, 0, 0, 0, 0, 0] 3 ⟨1, 0, 0, 2, 2, true⟩ ∧ Kept [p, r] w w' :=
  mclock_any m p r alC [2, 0, 1, 0, 0, 0, 1, 0, 0, 0, 0, 0, 0, 0, 0, 0] 2 ⟨4, 0, 0, 1, 2, true⟩  w hM (by decide) (by decide)
theorem al3 (m p r : Nat) (w : World) (hM : Mm w m p r alC [2, 0, 1, 0, 0, 0, 1, 0, 0, 0, 0, 0, 0, 0, 0, 0] 3 ⟨1, 0, 0, 2, 2, true⟩) (hT : Tab w) :
    Calls Tryd.prog 35 #[.pointer (some ⟨m, 0, none⟩), .int .u64 9223372036854775808, .int .i64 6, .int .u64 7] w fun e w' => e = .returned (.tuple #[]) ∧ Mm w' m p r alC [2, 0, 1, 0, 0, 0, 1, 0, 7, 0, 0, 0, 0, 0, 0, 0] 4 ⟨2, 8, 9223372036854775808, 0, 7, true⟩ ∧ Kept [p, r] w w' :=
  mstore_any m p r alC [2, 0, 1, 0, 0, 0, 1, 0, 0, 0, 0, 0, 0, 0, 0, 0] 3 ⟨1, 0, 0, 2, 2, true⟩ 9223372036854775808 6 7 w hM hT (by decide) (by decide) (by decide) (by decide)
theorem al4 (m p r : Nat) (w : World) (hM : Mm w m p r alC [2, 0, 1, 0, 0, 0, 1, 0, 7, 0, 0, 0, 0, 0, 0, 0] 4 ⟨2, 8, 9223372036854775808, 0, 7, true⟩) :
    Calls Tryd.prog 29 #[.pointer (some ⟨m, 0, none⟩), .int .i64 0, .int .i64 0, .int .u64 5] w fun e w' => e = .returned (.tuple #[]) ∧ Mm w' m p r alC [2, 5, 1, 0, 0, 0, 1, 0, 7, 0, 0, 0, 0, 0, 0, 0] 5 ⟨2, 1, 0, 0, 5, true⟩ ∧ Kept [p, r] w w' :=
  mreserve_any m p r alC [2, 0, 1, 0, 0, 0, 1, 0, 7, 0, 0, 0, 0, 0, 0, 0] 4 ⟨2, 8, 9223372036854775808, 0, 7, true⟩ 0 0 5 w hM (by decide) (by decide)
theorem al5 (m p r : Nat) (w : World) (hM : Mm w m p r alC [2, 5, 1, 0, 0, 0, 1, 0, 7, 0, 0, 0, 0, 0, 0, 0] 5 ⟨2, 1, 0, 0, 5, true⟩) (hT : Tab w) :
    Calls Tryd.prog 26 #[.pointer (some ⟨m, 0, none⟩), .int .u64 9223372036854775808, .int .i64 6] w fun e w' => e = .returned (.int .u64 7) ∧ Mm w' m p r alC [2, 5, 1, 0, 0, 0, 1, 0, 7, 0, 0, 0, 0, 0, 0, 0] 6 ⟨1, 8, 9223372036854775808, 7, 7, true⟩ ∧ Kept [p, r] w w' :=
  mload_any m p r alC [2, 5, 1, 0, 0, 0, 1, 0, 7, 0, 0, 0, 0, 0, 0, 0] 5 ⟨2, 1, 0, 0, 5, true⟩ 9223372036854775808 6 w hM hT (by decide) (by decide) (by decide) (by decide)
theorem al6 (m p r : Nat) (w : World) (hM : Mm w m p r alC [2, 5, 1, 0, 0, 0, 1, 0, 7, 0, 0, 0, 0, 0, 0, 0] 6 ⟨1, 8, 9223372036854775808, 7, 7, true⟩) :
    Calls Tryd.prog 30 #[.pointer (some ⟨m, 0, none⟩), .int .i64 0, .int .i64 0] w fun e w' => e = .returned (.int .u64 5) ∧ Mm w' m p r alC [2, 5, 1, 0, 0, 0, 1, 0, 7, 0, 0, 0, 0, 0, 0, 0] 7 ⟨1, 1, 0, 5, 5, true⟩ ∧ Kept [p, r] w w' :=
  mreserved_any m p r alC [2, 5, 1, 0, 0, 0, 1, 0, 7, 0, 0, 0, 0, 0, 0, 0] 6 ⟨1, 8, 9223372036854775808, 7, 7, true⟩ 0 0 w hM (by decide) (by decide)
theorem al7 (m p r : Nat) (w : World) (hM : Mm w m p r alC [2, 5, 1, 0, 0, 0, 1, 0, 7, 0, 0, 0, 0, 0, 0, 0] 7 ⟨1, 1, 0, 5, 5, true⟩) :
    Calls Tryd.prog 37 #[.pointer (some ⟨m, 0, none⟩), .int .i64 0] w fun e w' => e = .returned (.int .u64 1) ∧ Mm w' m p r alC [2, 5, 1, 0, 0, 0, 1, 0, 7, 0, 0, 0, 0, 0, 0, 0] 8 ⟨1, 2, 0, 1, 1, true⟩ ∧ Kept [p, r] w w' :=
  mmeta_any m p r alC [2, 5, 1, 0, 0, 0, 1, 0, 7, 0, 0, 0, 0, 0, 0, 0] 7 ⟨1, 1, 0, 5, 5, true⟩ 0 w hM (by decide) (by decide)
set_option maxRecDepth 100000 in
set_option maxHeartbeats 4000000 in
theorem alive_any (w : World) (hT : Tab w) : Calls Tryd.prog 11 #[] w fun e w' => e = .returned (.bool true) ∧ Kept [] w w' := by
  have HT : Hid _ := hT
  have Z := CB.new w alC
  have T : Kept [] w (w.alloc (.cells #[.int .i64 1, .int .i64 1, .int .i64 1, .int .i64 1, .int .i64 1, .int .i64 1, .int .i64 9] 23)) := (Kept.refl _ _).alloc _
  replace HT : Hid _ := Tab.kept HT.out T
  obtain ⟨B, hB⟩ : ∃ B, B = w.heap.size := ⟨_, rfl⟩
  clear hT
  go_enter Tryd.func11, Tryd.ntmps11
  go_upto_region 2 with (fail)
  rw [← hB] at Z ⊢
  have hBw : w.heap.size ≤ B := by omega
  clear hB
  generalize w.alloc (.cells #[.int .i64 1, .int .i64 1, .int .i64 1, .int .i64 1, .int .i64 1, .int .i64 1, .int .i64 9] 23) = W at Z T HT ⊢
  have q0 : W.cell? ⟨B, 0, none⟩ = some (.int .i64 1) := cell_of_blk Z (i := 0) rfl
  have q1 : W.cell? ⟨B, 1, none⟩ = some (.int .i64 1) := cell_of_blk Z (i := 1) rfl
  have q2 : W.cell? ⟨B, 2, none⟩ = some (.int .i64 1) := cell_of_blk Z (i := 2) rfl
  have q3 : W.cell? ⟨B, 3, none⟩ = some (.int .i64 1) := cell_of_blk Z (i := 3) rfl
  have q4 : W.cell? ⟨B, 4, none⟩ = some (.int .i64 1) := cell_of_blk Z (i := 4) rfl
  have q5 : W.cell? ⟨B, 5, none⟩ = some (.int .i64 1) := cell_of_blk Z (i := 5) rfl
  have q6 : W.cell? ⟨B, 6, none⟩ = some (.int .i64 9) := cell_of_blk Z (i := 6) rfl
  go_wp2_with fail
  refine (mnew_yes alC _ (by exact HT.out) (by decide)).mono ?_
  rintro e W1 ⟨m, p, r, rfl, hm0, M, K1⟩
  rw [fc_al] at M
  replace HT : Hid _ := Tab.kept HT.out K1
  have hBl := lt_of_blk Z
  replace Z := Z.kept K1 (by simp)
  have hm : w.heap.size ≤ m ∧ w.heap.size ≤ p ∧ w.heap.size ≤ r := by have := T.size; omega
  replace T := T.trans K1
  have hBp : ¬ B = p ∧ ¬ B = r := by omega
  clear q0 q1 q2 q3 q4 q5 q6 hm0 K1 hBl
  go_wp2_with fail
  refine (mnew_wrong ⟨0, 0, 0, 0, 0, 0, 0⟩ _ (by decide)).mono ?_
  rintro e W2 ⟨rfl, K2⟩
  replace HT : Hid _ := Tab.kept HT.out K2
  replace Z := Z.kept K2 (by simp)
  replace M := M.new K2
  replace T := T.trans K2
  clear K2
  have q0 : W2.cell? ⟨B, 0, none⟩ = some (.int .i64 1) := cell_of_blk Z (i := 0) rfl
  have q1 : W2.cell? ⟨B, 1, none⟩ = some (.int .i64 1) := cell_of_blk Z (i := 1) rfl
  have q2 : W2.cell? ⟨B, 2, none⟩ = some (.int .i64 1) := cell_of_blk Z (i := 2) rfl
  have q3 : W2.cell? ⟨B, 3, none⟩ = some (.int .i64 1) := cell_of_blk Z (i := 3) rfl
  have q4 : W2.cell? ⟨B, 4, none⟩ = some (.int .i64 1) := cell_of_blk Z (i := 4) rfl
  have q5 : W2.cell? ⟨B, 5, none⟩ = some (.int .i64 1) := cell_of_blk Z (i := 5) rfl
  have q6 : W2.cell? ⟨B, 6, none⟩ = some (.int .i64 9) := cell_of_blk Z (i := 6) rfl
  go_wp2_with fail
  refine (mof_len alC none 0 0 _ (by decide) (by decide)).mono ?_
  rintro e W3 ⟨rfl, K3⟩
  replace HT : Hid _ := Tab.kept HT.out K3
  replace Z := Z.kept K3 (by simp)
  replace M := M.new K3
  replace T := T.trans K3
  clear K3 q0 q1 q2 q3 q4 q5 q6
  go_wp2_with fail
  refine (bank_any m p r alC _ _ _ _ M).mono ?_
  rintro e W4 ⟨rfl, rfl⟩
  go_wp2_with fail
  refine (al0 m p r _ M).mono ?_
  rintro e W5 ⟨rfl, M', K'⟩
  replace HT : Hid _ := Tab.mm HT.out M K'
  replace Z := Z.kept K' (by simp; omega)
  replace T := T.own K' hm.2.1 hm.2.2
  replace M := M'
  clear M' K'
  go_wp2_with fail
  refine (al1 m p r _ M).mono ?_
  rintro e W6 ⟨rfl, M', K'⟩
  replace HT : Hid _ := Tab.mm HT.out M K'
  replace Z := Z.kept K' (by simp; omega)
  replace T := T.own K' hm.2.1 hm.2.2
  replace M := M'
  clear M' K'
  go_wp2_with fail
  refine (al2 m p r _ M).mono ?_
  rintro e W7 ⟨rfl, M', K'⟩
  replace HT : Hid _ := Tab.mm HT.out M K'
  replace Z := Z.kept K' (by simp; omega)
  replace T := T.own K' hm.2.1 hm.2.2
  replace M := M'
  clear M' K'
  go_wp2_with fail
  refine (head_any _ (by exact HT.out)).mono ?_
  rintro e W8 ⟨rfl, K8⟩
  replace HT : Hid _ := Tab.kept HT.out K8
  replace Z := Z.kept K8 (by simp)
  replace M := M.new K8
  replace T := T.trans K8
  clear K8
  go_wp2_with fail
  refine (al3 m p r _ M (by exact HT.out)).mono ?_
  rintro e W9 ⟨rfl, M', K'⟩
  replace HT : Hid _ := Tab.mm HT.out M K'
  replace Z := Z.kept K' (by simp; omega)
  replace T := T.own K' hm.2.1 hm.2.2
  replace M := M'
  clear M' K'
  go_wp2_with fail
  refine (al4 m p r _ M).mono ?_
  rintro e W10 ⟨rfl, M', K'⟩
  replace HT : Hid _ := Tab.mm HT.out M K'
  replace Z := Z.kept K' (by simp; omega)
  replace T := T.own K' hm.2.1 hm.2.2
  replace M := M'
  clear M' K'
  go_wp2_with fail
  have HS : Hid (∀ W' : World, Kept [p, r] W10 W' → W'.cell? ⟨m, 0, none⟩ = some (.int .i64 1) ∧ W'.cell? ⟨m, 1, none⟩ = some (.int .i64 1) ∧ W'.cell? ⟨m, 2, none⟩ = some (.int .i64 1) ∧ W'.cell? ⟨m, 3, none⟩ = some (.int .i64 1) ∧ W'.cell? ⟨m, 4, none⟩ = some (.int .i64 1) ∧ W'.cell? ⟨m, 5, none⟩ = some (.int .i64 1) ∧ W'.cell? ⟨m, 6, none⟩ = some (.int .i64 9) ∧ W'.cell? ⟨m, 7, none⟩ = some (.pointer (some ⟨p, 0, none⟩)) ∧ W'.cell? ⟨B, 0, none⟩ = some (.int .i64 1) ∧ W'.cell? ⟨B, 1, none⟩ = some (.int .i64 1) ∧ W'.cell? ⟨B, 2, none⟩ = some (.int .i64 1) ∧ W'.cell? ⟨B, 3, none⟩ = some (.int .i64 1) ∧ W'.cell? ⟨B, 4, none⟩ = some (.int .i64 1) ∧ W'.cell? ⟨B, 5, none⟩ = some (.int .i64 1) ∧ W'.cell? ⟨B, 6, none⟩ = some (.int .i64 9)) := by
    intro W' k
    have z := k.blk M.st (by simp [M.mp, M.mr])
    have y := k.blk Z (by simp [hBp])
    exact ⟨cell_of_blk z (i := 0) rfl, cell_of_blk z (i := 1) rfl, cell_of_blk z (i := 2) rfl, cell_of_blk z (i := 3) rfl, cell_of_blk z (i := 4) rfl, cell_of_blk z (i := 5) rfl, cell_of_blk z (i := 6) rfl, cell_of_blk z (i := 7) rfl, cell_of_blk y (i := 0) rfl, cell_of_blk y (i := 1) rfl, cell_of_blk y (i := 2) rfl, cell_of_blk y (i := 3) rfl, cell_of_blk y (i := 4) rfl, cell_of_blk y (i := 5) rfl, cell_of_blk y (i := 6) rfl⟩
  have HA : Hid (∀ W' : World, Kept [] W10 W' → Calls Tryd.prog 36 #[] W' fun e w' => e = .returned (.int .u64 9223372036854775808) ∧ Kept [] W10 w') := fun W' k => (head_any W' (Tab.kept HT.out k)).mono fun _ _ h => ⟨h.1, k.trans h.2⟩
  have HL : Hid (∀ W' : World, Kept [] W10 W' → Calls Tryd.prog 26 #[.pointer (some ⟨m, 0, none⟩), .int .u64 9223372036854775808, .int .i64 6] W' fun e w' => e = .returned (.int .u64 7) ∧ Mm w' m p r alC [2, 5, 1, 0, 0, 0, 1, 0, 7, 0, 0, 0, 0, 0, 0, 0] 6 ⟨1, 8, 9223372036854775808, 7, 7, true⟩ ∧ Kept [p, r] W10 w') := fun W' k => (al5 m p r W' (M.new k) (Tab.kept HT.out k)).mono fun _ _ h => ⟨h.1, h.2.1, (k.weaken (m := [p, r]) (by simp)).trans h.2.2⟩
  have HF : Hid _ := T
  clear M Z T
  go_region_held3 (fun W' => W'.cell? ⟨m, 0, none⟩ = some (.int .i64 1) ∧ W'.cell? ⟨m, 1, none⟩ = some (.int .i64 1) ∧ W'.cell? ⟨m, 2, none⟩ = some (.int .i64 1) ∧ W'.cell? ⟨m, 3, none⟩ = some (.int .i64 1) ∧ W'.cell? ⟨m, 4, none⟩ = some (.int .i64 1) ∧ W'.cell? ⟨m, 5, none⟩ = some (.int .i64 1) ∧ W'.cell? ⟨m, 6, none⟩ = some (.int .i64 9) ∧ W'.cell? ⟨m, 7, none⟩ = some (.pointer (some ⟨p, 0, none⟩)) ∧ W'.cell? ⟨B, 0, none⟩ = some (.int .i64 1) ∧ W'.cell? ⟨B, 1, none⟩ = some (.int .i64 1) ∧ W'.cell? ⟨B, 2, none⟩ = some (.int .i64 1) ∧ W'.cell? ⟨B, 3, none⟩ = some (.int .i64 1) ∧ W'.cell? ⟨B, 4, none⟩ = some (.int .i64 1) ∧ W'.cell? ⟨B, 5, none⟩ = some (.int .i64 1) ∧ W'.cell? ⟨B, 6, none⟩ = some (.int .i64 9))
    (first | exact HS.out _ (by assumption) | exact HS.out _ (Kept.weaken (l := []) (by assumption) (by simp)) | exact HS.out _ (Kept.refl _ _).drew)
    (first
      | (go_at_call 36; refine (HA.out _ (by first | assumption | exact (Kept.refl _ _).drew)).mono ?_; rintro e wa ⟨rfl, Ka⟩)
      | (go_at_call 26; refine (HL.out _ (by assumption)).mono ?_; rintro e wb ⟨rfl, Mb, Kb⟩)
      | (go_at_call 30; refine (al6 m p r _ Mb).mono ?_; rintro e wc ⟨rfl, Mc, Kc⟩; have Lc := Kb.trans Kc)
      | (go_at_call 37; refine (al7 m p r _ Mc).mono ?_; rintro e wd ⟨rfl, Md, Kd⟩; have Ld := Lc.trans Kd)
      | (go_at_call 23; refine (bank_any m p r alC _ _ _ _ (by first | exact Md | exact Mf)).mono ?_; rintro e we ⟨rfl, rfl⟩)
      | (go_at_call 25; refine (count_any p r _ _ _ _ Md.bk).mono ?_; rintro e we ⟨rfl, rfl⟩)
      | (go_at_call 12; refine (config_any alC _).mono ?_; rintro e wf ⟨rfl, Kf⟩; have Mf := Md.new Kf; have Lf : Kept [p, r] W10 wf := Ld.then Kf (by simp); simp only [Cfg.val])
      | (go_at_call 27; refine (last_any p r _ _ _ _ Mf.bk).mono ?_; rintro e wg ⟨rfl, Kg⟩; have Lg : Kept [p, r] W10 wg := Lf.then Kg (by simp); simp only [Acc.val]))
  all_goals
    go_wp2
    go_ret
    exact ⟨rfl, HF.out.own Lg hm.2.1 hm.2.2⟩
theorem alive_kw {w : World} (hT : Tab w) (p : KW w) : Calls Tryd.prog 11 #[] p.val fun e w' => e = .returned (.bool true) ∧ ∃ q : KW w, w' = q.val := Calls.kw_of (alive_any _ (hT.kept p.kept))
end Go.Proofs.YtahdhekbancapaaDoor
