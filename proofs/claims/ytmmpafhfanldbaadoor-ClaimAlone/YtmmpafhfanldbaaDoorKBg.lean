/-
  The contracts of package claim: its first step, any step, and giving back.
-/
import Derived.Test.YtmmpafhfanldbaaDoorKSt
namespace Go.Proofs.YtmmpafhfanldbaaDoor
open Go.RowKit (Grown Hid Below)
open Go.Deep
namespace K
def bgI (c : Cfg) (fr : Int) : Int := if fr < 1 ∨ c.c < fr then 1 else fr
def beginK (c : Cfg) (cs : List Int) (s : Ks) : Ks := lookK c cs ⟨0, s.fr, bgI c s.fr, c.c, s.lk, s.gt, s.nx⟩
set_option maxRecDepth 100000 in
set_option maxHeartbeats 2000000 in
theorem begin_any (b m p r : Nat) (v : Value) (c : Cfg) (cs : List Int) (cnt : Int) (a : Acc) (ph : Nat) (fr ix lf lk gt nx : Int) (w : World) (hK : KB w b v fr ix lf lk gt nx) (hM : Mm w m p r c cs cnt a) (h0 : 1 ≤ c.c) (h1 : c.c ≤ 64) (c0 : 0 ≤ cnt) (c1 : cnt < 4611686018427387904) (x0 : 0 ≤ wdK c cs (bgI c fr)) (x1 : wdK c cs (bgI c fr) < 18446744073709551616) :
    Calls Tryd.prog 37 #[.pointer (some ⟨b, 0, none⟩), .pointer (some ⟨m, 0, none⟩)] w fun e w' => e = .returned (.tuple #[]) ∧ KS w' b (beginK c cs ⟨ph, fr, ix, lf, lk, gt, nx⟩) ∧ Mm w' m p r c (clV cs 1 (clV' c (bgI c fr) 0) 0 0) (cnt + 1) (acV cs 1 (clV' c (bgI c fr) 0) 0 0 0) ∧ Kept [b, p, r] w w' := by
  obtain ⟨n1, n2, n3⟩ := hK.nm hM
  have F2 := fldcap c
  have z0 := cell_of_blk hM.st (i := 0) rfl
  have z1 := cell_of_blk hM.st (i := 1) rfl
  have z2 := cell_of_blk hM.st (i := 2) rfl
  have z3 := cell_of_blk hM.st (i := 3) rfl
  have z4 := cell_of_blk hM.st (i := 4) rfl
  have z5 := cell_of_blk hM.st (i := 5) rfl
  have z6 := cell_of_blk hM.st (i := 6) rfl
  have q0 := cell_of_blk hK (i := 0) rfl
  have q2 := cell_of_blk hK (i := 2) rfl
  have q3 := cell_of_blk hK (i := 3) rfl
  have hf := free_of_blk hK
  have HB : Hid (KB w b v fr ix lf lk gt nx) := hK
  have HM : Hid (Mm w m p r c cs cnt a) := hM
  clear hK hM
  have HS : Hid (∀ W' : World, Kept [b] w W' → W'.cell? ⟨b, 0, none⟩ = some (.int .i64 fr) → W'.cell? ⟨m, 0, none⟩ = some (.int .i64 c.t) ∧ W'.cell? ⟨m, 1, none⟩ = some (.int .i64 c.s) ∧ W'.cell? ⟨m, 2, none⟩ = some (.int .i64 c.c) ∧ W'.cell? ⟨m, 3, none⟩ = some (.int .i64 c.h) ∧ W'.cell? ⟨m, 4, none⟩ = some (.int .i64 c.k) ∧ W'.cell? ⟨m, 5, none⟩ = some (.int .i64 c.e) ∧ W'.cell? ⟨m, 6, none⟩ = some (.int .i64 c.l)) := by
    intro W' k h
    have z := k.blk HM.out.st (by simp; omega)
    exact ⟨cell_of_blk z (i := 0) rfl, cell_of_blk z (i := 1) rfl, cell_of_blk z (i := 2) rfl, cell_of_blk z (i := 3) rfl, cell_of_blk z (i := 4) rfl, cell_of_blk z (i := 5) rfl, cell_of_blk z (i := 6) rfl⟩
  go_enter Tryd.func37, Tryd.ntmps37
  go_wp2_with fail
  go_cut [9] from 4 (fun _ V => KB V b v fr fr c.c lk gt nx ∧ Kept [b] w V)
  case first =>
    go_region_with (go_at_call 52; refine (config_any c _).mono ?_; rintro e w5 ⟨rfl, K5⟩
                    have Z5 : KB w5 b v fr ix lf lk gt nx := K5.blk HB.out (by simp)
                    have q0 := cell_of_blk Z5 (i := 0) rfl
                    have q2 := cell_of_blk Z5 (i := 2) rfl
                    have q3 := cell_of_blk Z5 (i := 3) rfl
                    have hf := free_of_blk Z5
                    have KZ : Kept [b] w w5 := (Kept.undrew K5).weaken (by simp)
                    have HZ5 : Hid (KB w5 b v fr ix lf lk gt nx) := Z5
                    clear Z5)
    all_goals
      go_wp2
      go_meet
      case rel => exact ⟨by have z := blk_set (blk_set HZ5.out 2 (.int .i64 fr)) 3 (.int .i64 c.c); simpa [KB] using z, (KZ.setCell (p := ⟨b, 2, none⟩) (Or.inl (by simp)) _).setCell (p := ⟨b, 3, none⟩) (Or.inl (by simp)) _⟩
  case rest =>
    obtain ⟨ZW, KW⟩ := hcut
    clear z0 z1 z2 z3 z4 z5 z6 q0 q2 q3 hf HS
    have MW := HM.out.kept KW (by simp; omega) (by simp; omega) (by simp; omega)
    have HMW : Hid (Mm wc m p r c cs cnt a) := MW
    have HZW : Hid (KB wc b v fr fr c.c lk gt nx) := ZW
    have HS : Hid (∀ W' : World, Kept [] wc W' → W'.cell? ⟨b, 2, none⟩ = some (.int .i64 fr) ∧ W'.cell? ⟨m, 0, none⟩ = some (.int .i64 c.t) ∧ W'.cell? ⟨m, 1, none⟩ = some (.int .i64 c.s) ∧ W'.cell? ⟨m, 2, none⟩ = some (.int .i64 c.c) ∧ W'.cell? ⟨m, 3, none⟩ = some (.int .i64 c.h) ∧ W'.cell? ⟨m, 4, none⟩ = some (.int .i64 c.k) ∧ W'.cell? ⟨m, 5, none⟩ = some (.int .i64 c.e) ∧ W'.cell? ⟨m, 6, none⟩ = some (.int .i64 c.l)) := by
      intro W' k
      have z := k.blk MW.st (by simp)
      have y := k.blk ZW (by simp)
      exact ⟨cell_of_blk y (i := 2) rfl, cell_of_blk z (i := 0) rfl, cell_of_blk z (i := 1) rfl, cell_of_blk z (i := 2) rfl, cell_of_blk z (i := 3) rfl, cell_of_blk z (i := 4) rfl, cell_of_blk z (i := 5) rfl, cell_of_blk z (i := 6) rfl⟩
    have q2 := cell_of_blk ZW (i := 2) rfl
    have hf := free_of_blk ZW
    clear ZW MW
    have CF : Hid (∀ W' : World, Kept [] wc W' → Calls Tryd.prog 52 #[.agg #[.int .i64 c.t, .int .i64 c.s, .int .i64 c.c, .int .i64 c.h, .int .i64 c.k, .int .i64 c.e, .int .i64 c.l]] W' fun e w' => e = .returned c.val ∧ Kept [] wc w') := fun W' k => (config_any c W').mono fun _ _ hh => ⟨hh.1, k.trans hh.2⟩
    by_cases hl : fr < 1
    · have e1 : bgI c fr = 1 := if_pos (Or.inl hl)
      have e2 : Hid (beginK c cs ⟨ph, fr, ix, lf, lk, gt, nx⟩ = lookK c cs ⟨0, fr, 1, c.c, lk, gt, nx⟩) := by show _ = _; unfold beginK; rw [e1]
      rw [e1] at x0 x1
      have E1 : Hid (bgI c fr = 1) := e1
      clear e1
      have hl' : decide (fr < 1) = true := by simp [hl]
      go_wp2_with fail
      go_quiet (fail)
      go_wp2_with fail
      refine (look_any b m p r v c cs cnt a 0 fr 1 c.c lk gt nx _ ?_ ?_ (by omega) h1 h0 h1 c0 c1 x0 x1).mono ?_
      · have z := fun n => blk_set (w := wc.drewN n) ((blk_drewN n).trans HZW.out) 2 (.int .i64 1)
        have z' := z nq
        simpa [KB] using z'
      · exact HMW.out.kept (l := [b]) ((((Kept.refl [b] wc).drewN _).setCell (Or.inl (by simp)) _)) (by simp; omega) (by simp; omega) (by simp; omega)
      have KX : Kept [b, p, r] w ((wc.drewN nq).setCell ⟨b, 2, none⟩ (.int .i64 1)) := ((KW.weaken (m := [b, p, r]) (by simp)).drewN nq).setCell (Or.inl (by simp)) _
      rintro e w9 ⟨rfl, S9, M9, K9⟩
      have S9' : Hid (KS w9 b (beginK c cs ⟨ph, fr, ix, lf, lk, gt, nx⟩)) := by show KS _ _ _; rw [e2.out]; exact S9
      have M9' : Hid (Mm w9 m p r c (clV cs 1 (clV' c (bgI c fr) 0) 0 0) (cnt + 1) (acV cs 1 (clV' c (bgI c fr) 0) 0 0 0)) := by show Mm _ _ _ _ _ _ _ _; rw [E1.out]; exact M9
      have KF : Kept [b, p, r] w w9 := KX.then K9 (by simp)
      clear S9 M9 K9 KX
      go_wp2
      go_end0
      exact ⟨rfl, S9'.out, M9'.out, KF⟩
    · by_cases hu : c.c < fr
      · have e1 : bgI c fr = 1 := if_pos (Or.inr hu)
        have e2 : Hid (beginK c cs ⟨ph, fr, ix, lf, lk, gt, nx⟩ = lookK c cs ⟨0, fr, 1, c.c, lk, gt, nx⟩) := by show _ = _; unfold beginK; rw [e1]
        rw [e1] at x0 x1
        have E1 : Hid (bgI c fr = 1) := e1
        clear e1
        have hl' : decide (fr < 1) = false := by simp [hl]
        have hu' : decide (c.c < fr) = true := by simp [hu]
        go_wp2_with fail
        go_region_held3 (fun W' => W'.cell? ⟨b, 2, none⟩ = some (.int .i64 fr) ∧ W'.cell? ⟨m, 0, none⟩ = some (.int .i64 c.t) ∧ W'.cell? ⟨m, 1, none⟩ = some (.int .i64 c.s) ∧ W'.cell? ⟨m, 2, none⟩ = some (.int .i64 c.c) ∧ W'.cell? ⟨m, 3, none⟩ = some (.int .i64 c.h) ∧ W'.cell? ⟨m, 4, none⟩ = some (.int .i64 c.k) ∧ W'.cell? ⟨m, 5, none⟩ = some (.int .i64 c.e) ∧ W'.cell? ⟨m, 6, none⟩ = some (.int .i64 c.l))
          (exact HS.out _ (by first | assumption | exact (Kept.refl _ _).drew | exact Kept.refl _ _))
          (first
            | (go_at_call 52; refine (CF.out _ (by first | assumption | exact (Kept.refl _ _).drew)).mono ?_; rintro e w5 ⟨rfl, K5⟩))
        have Z5 : KB w5 b v fr fr c.c lk gt nx := K5.blk HZW.out (by simp)
        have M5 := HMW.out.new K5
        clear q2 hf
        have q2 := cell_of_blk Z5 (i := 2) rfl
        have hf := free_of_blk Z5
        have KX0 : Kept [b, p, r] w w5 := (KW.weaken (m := [b, p, r]) (by simp)).then K5 (by simp)
        have HZ5 : Hid (KB w5 b v fr fr c.c lk gt nx) := Z5
        have HM5 : Hid (Mm w5 m p r c cs cnt a) := M5
        clear Z5 M5 HZW HMW K5
        go_wp2_with fail
        refine (look_any b m p r v c cs cnt a 0 fr 1 c.c lk gt nx _ ?_ ?_ (by omega) h1 h0 h1 c0 c1 x0 x1).mono ?_
        · have z := blk_set HZ5.out 2 (.int .i64 1)
          simpa [KB] using z
        · exact HM5.out.kept (l := [b]) ((Kept.refl [b] w5).setCell (p := ⟨b, 2, none⟩) (Or.inl (by simp)) (.int .i64 1)) (by simp; omega) (by simp; omega) (by simp; omega)
        have KX : Kept [b, p, r] w (w5.setCell ⟨b, 2, none⟩ (.int .i64 1)) := KX0.setCell (Or.inl (by simp)) _
        rintro e w9 ⟨rfl, S9, M9, K9⟩
        have S9' : Hid (KS w9 b (beginK c cs ⟨ph, fr, ix, lf, lk, gt, nx⟩)) := by show KS _ _ _; rw [e2.out]; exact S9
        have M9' : Hid (Mm w9 m p r c (clV cs 1 (clV' c (bgI c fr) 0) 0 0) (cnt + 1) (acV cs 1 (clV' c (bgI c fr) 0) 0 0 0)) := by show Mm _ _ _ _ _ _ _ _; rw [E1.out]; exact M9
        have KF : Kept [b, p, r] w w9 := KX.then K9 (by simp)
        clear S9 M9 K9 KX
        go_wp2
        go_end0
        exact ⟨rfl, S9'.out, M9'.out, KF⟩
      · have e1 : bgI c fr = fr := if_neg (by omega)
        have e2 : Hid (beginK c cs ⟨ph, fr, ix, lf, lk, gt, nx⟩ = lookK c cs ⟨0, fr, fr, c.c, lk, gt, nx⟩) := by show _ = _; unfold beginK; rw [e1]
        rw [e1] at x0 x1
        have E1 : Hid (bgI c fr = fr) := e1
        clear e1
        have hl' : decide (fr < 1) = false := by simp [hl]
        have hu' : decide (c.c < fr) = false := by simp [hu]
        go_wp2_with fail
        go_region_held3 (fun W' => W'.cell? ⟨b, 2, none⟩ = some (.int .i64 fr) ∧ W'.cell? ⟨m, 0, none⟩ = some (.int .i64 c.t) ∧ W'.cell? ⟨m, 1, none⟩ = some (.int .i64 c.s) ∧ W'.cell? ⟨m, 2, none⟩ = some (.int .i64 c.c) ∧ W'.cell? ⟨m, 3, none⟩ = some (.int .i64 c.h) ∧ W'.cell? ⟨m, 4, none⟩ = some (.int .i64 c.k) ∧ W'.cell? ⟨m, 5, none⟩ = some (.int .i64 c.e) ∧ W'.cell? ⟨m, 6, none⟩ = some (.int .i64 c.l))
          (exact HS.out _ (by first | assumption | exact (Kept.refl _ _).drew | exact Kept.refl _ _))
          (first
            | (go_at_call 52; refine (CF.out _ (by first | assumption | exact (Kept.refl _ _).drew)).mono ?_; rintro e w5 ⟨rfl, K5⟩))
        have Z5 : KB w5 b v fr fr c.c lk gt nx := K5.blk HZW.out (by simp)
        have M5 := HMW.out.new K5
        clear q2 hf
        have q2 := cell_of_blk Z5 (i := 2) rfl
        have hf := free_of_blk Z5
        have KX0 : Kept [b, p, r] w w5 := (KW.weaken (m := [b, p, r]) (by simp)).then K5 (by simp)
        have HZ5 : Hid (KB w5 b v fr fr c.c lk gt nx) := Z5
        have HM5 : Hid (Mm w5 m p r c cs cnt a) := M5
        clear Z5 M5 HZW HMW K5
        go_wp2_with fail
        refine (look_any b m p r v c cs cnt a 0 fr fr c.c lk gt nx _ HZ5.out HM5.out (by omega) h1 h0 h1 c0 c1 x0 x1).mono ?_
        have KX := KX0
        rintro e w9 ⟨rfl, S9, M9, K9⟩
        have S9' : Hid (KS w9 b (beginK c cs ⟨ph, fr, ix, lf, lk, gt, nx⟩)) := by show KS _ _ _; rw [e2.out]; exact S9
        have M9' : Hid (Mm w9 m p r c (clV cs 1 (clV' c (bgI c fr) 0) 0 0) (cnt + 1) (acV cs 1 (clV' c (bgI c fr) 0) 0 0 0)) := by show Mm _ _ _ _ _ _ _ _; rw [E1.out]; exact M9
        have KF : Kept [b, p, r] w w9 := KX.then K9 (by simp)
        clear S9 M9 K9 KX
        go_wp2
        go_end0
        exact ⟨rfl, S9'.out, M9'.out, KF⟩
end K
end Go.Proofs.YtmmpafhfanldbaaDoor
