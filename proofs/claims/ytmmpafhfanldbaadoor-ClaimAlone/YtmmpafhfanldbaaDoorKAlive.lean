/-
  The slot of a world of one, taken and given back.
-/
import Derived.Test.YtmmpafhfanldbaaDoorKBack
namespace Go.Proofs.YtmmpafhfanldbaaDoor
open Go.RowKit (Grown Hid Below)
open Go.Deep
namespace K
set_option maxRecDepth 100000
theorem kdone_any (b : Nat) (s : Ks) (w : World) (hK : KS w b s) : Calls Tryd.prog 16 #[.pointer (some ⟨b, 0, none⟩)] w fun e w' => e = .returned (.bool (decide (3 ≤ s.ph))) ∧ w' = w := by
  obtain ⟨ph, fr, ix, lf, lk, gt, nx⟩ := s
  rcases (by omega : ph = 0 ∨ ph = 1 ∨ ph = 2 ∨ 3 ≤ ph) with rfl | rfl | rfl | h3
  · exact done_no b _ fr ix lf lk gt nx w hK
  · exact done_no b _ fr ix lf lk gt nx w hK
  · exact done_no b _ fr ix lf lk gt nx w hK
  · have z := hK
    unfold KS phV at z
    rw [if_neg (by show ¬ ph = 0; omega), if_neg (by show ¬ ph = 1; omega), if_neg (by show ¬ ph = 2; omega)] at z
    rw [show decide (3 ≤ (⟨ph, fr, ix, lf, lk, gt, nx⟩ : Ks).ph) = true from decide_eq_true h3]
    exact done_yes b fr ix lf lk gt nx w z
theorem kgot_any (b : Nat) (s : Ks) (w : World) (hK : KS w b s) : Calls Tryd.prog 17 #[.pointer (some ⟨b, 0, none⟩)] w fun e w' => e = .returned (.int .u64 s.gt) ∧ w' = w := got_any b _ _ _ _ _ _ _ w hK
theorem knext_any (b : Nat) (s : Ks) (w : World) (hK : KS w b s) : Calls Tryd.prog 18 #[.pointer (some ⟨b, 0, none⟩)] w fun e w' => e = .returned (.int .i64 s.nx) ∧ w' = w := next_any b _ _ _ _ _ _ _ w hK
theorem knew_any (fr : Int) (w : World) : Calls Tryd.prog 10 #[.int .i64 fr] w fun e w' => ∃ b, e = .returned (.pointer (some ⟨b, 0, none⟩)) ∧ w.heap.size ≤ b ∧ KS w' b ⟨0, fr, 0, 0, 0, 0, fr⟩ ∧ Kept [] w w' := new_any fr w
theorem KS.lt {w : World} {b : Nat} {s : Ks} (h : KS w b s) : b < w.heap.size := lt_of_blk h
theorem KS.nm {w : World} {b m p r : Nat} {s : Ks} {c : Cfg} {cs : List Int} {cnt : Int} {a : Acc} (h : KS w b s) (hM : Mm w m p r c cs cnt a) : ¬ b = m ∧ ¬ b = p ∧ ¬ b = r := KB.nm h hM
def c9 : Cfg := ⟨1, 1, 1, 1, 1, 1, 9⟩
def cs0 : List Int := [1, 0, 1, 0, 0, 0, 1, 0, 0, 0, 0, 0, 0, 0, 0, 0]
def cs1 : List Int := [1, 0, 1, 0, 0, 0, 1, 0, 0, 1, 0, 0, 0, 0, 0, 0]
def cs4 : List Int := [1, 0, 1, 0, 0, 0, 1, 0, 0, 4, 0, 0, 0, 0, 0, 0]
theorem cs0_wd : Wds cs0 := by intro x hx; simp [cs0] at hx; omega
theorem cs1_wd : Wds cs1 := by intro x hx; simp [cs1] at hx; omega
theorem c9_new : fcV c9 = cs0 := by rfl
set_option maxHeartbeats 4000000 in
theorem alive_any (w : World) (hT : Tab w) : Calls Tryd.prog 11 #[] w fun e w' => e = .returned (.bool true) ∧ Kept [] w w' := by
  have tp := hT.pos
  have NW := hidOf (mnew_yes c9 w hT rfl)
  rw [c9_new] at NW
  go_enter Tryd.func11, Tryd.ntmps11
  go_wp2_with fail
  refine NW.out.mono ?_
  rintro e w1 ⟨m, p, r, rfl, ⟨hm, hp, hr⟩, M, K1⟩
  have T := hT.kept K1
  clear hT NW
  have HM := hidOf M
  clear M
  go_wp2_with (go_at_call 22; refine (bank_any m p r c9 cs0 0 Acc.zero _ HM.out).mono ?_; rintro e w2 ⟨rfl, rfl⟩)
  refine (knew_any 5 _).mono ?_
  rintro e w3 ⟨a, rfl, ha, A, K3⟩
  have sz := K1.size
  replace HM := hidOf (HM.out.new K3)
  have HA := hidOf A
  replace T := T.kept K3
  have K := K1.trans K3
  obtain ⟨na1, na2, na3⟩ := A.nm HM.out
  clear K1 K3 A
  go_wp2_with (first
    | (go_at_call 16; (first | (refine (kdone_any a _ _ HA.out).mono ?_; rintro e w2 ⟨rfl, rfl⟩) | (refine (kdone_any b _ _ HB.out).mono ?_; rintro e w2 ⟨rfl, rfl⟩)))
    | (go_at_call 17; (first | (refine (kgot_any a _ _ HA.out).mono ?_; rintro e w2 ⟨rfl, rfl⟩) | (refine (kgot_any b _ _ HB.out).mono ?_; rintro e w2 ⟨rfl, rfl⟩)))
    | (go_at_call 18; (first | (refine (knext_any a _ _ HA.out).mono ?_; rintro e w2 ⟨rfl, rfl⟩) | (refine (knext_any b _ _ HB.out).mono ?_; rintro e w2 ⟨rfl, rfl⟩)))
    | (go_at_call 22; refine (bank_any m p r c9 _ _ _ _ HM.out).mono ?_; rintro e w2 ⟨rfl, rfl⟩)
    | (go_at_call 23; refine (count_any p r _ _ _ _ HM.out.bk).mono ?_; rintro e w2 ⟨rfl, rfl⟩))
  have ST := hidOf (step_any a m p r c9 cs0 0 _ ⟨0, 5, 0, 0, 0, 0, 5⟩ _ HA.out HM.out T ⟨fun h => by simp at h, by decide⟩ cs0_wd (by decide) (by decide) (by decide) (by decide))
  rw [show stK c9 cs0 ⟨0, 5, 0, 0, 0, 0, 5⟩ = ⟨2, 5, 1, 1, 0, 0, 5⟩ by rfl, show stC c9 cs0 ⟨0, 5, 0, 0, 0, 0, 5⟩ = cs0 by rfl, show stN 0 ⟨0, 5, 0, 0, 0, 0, 5⟩ = 1 by rfl] at ST
  refine ST.out.mono ?_
  rintro e w4 ⟨rfl, A9, M9, K9⟩
  replace K := K.then K9 (by simp; omega)
  replace T := T.keptL K9 (by have := HM.out.pos; simp; omega)
  clear ST HM HA K9
  have HM := hidOf M9
  have HA := hidOf A9
  clear M9 A9
  go_wp2_with (first
    | (go_at_call 16; (first | (refine (kdone_any a _ _ HA.out).mono ?_; rintro e w2 ⟨rfl, rfl⟩) | (refine (kdone_any b _ _ HB.out).mono ?_; rintro e w2 ⟨rfl, rfl⟩)))
    | (go_at_call 17; (first | (refine (kgot_any a _ _ HA.out).mono ?_; rintro e w2 ⟨rfl, rfl⟩) | (refine (kgot_any b _ _ HB.out).mono ?_; rintro e w2 ⟨rfl, rfl⟩)))
    | (go_at_call 18; (first | (refine (knext_any a _ _ HA.out).mono ?_; rintro e w2 ⟨rfl, rfl⟩) | (refine (knext_any b _ _ HB.out).mono ?_; rintro e w2 ⟨rfl, rfl⟩)))
    | (go_at_call 22; refine (bank_any m p r c9 _ _ _ _ HM.out).mono ?_; rintro e w2 ⟨rfl, rfl⟩)
    | (go_at_call 23; refine (count_any p r _ _ _ _ HM.out.bk).mono ?_; rintro e w2 ⟨rfl, rfl⟩))
  have ST := hidOf (step_any a m p r c9 cs0 1 _ ⟨2, 5, 1, 1, 0, 0, 5⟩ _ HA.out HM.out T ⟨fun _ _ => by decide, by decide⟩ cs0_wd (by decide) (by decide) (by decide) (by decide))
  rw [show stK c9 cs0 ⟨2, 5, 1, 1, 0, 0, 5⟩ = ⟨3, 5, 1, 1, 0, 9223372036854775809, 1⟩ by rfl, show stC c9 cs0 ⟨2, 5, 1, 1, 0, 0, 5⟩ = cs1 by rfl, show stN 1 ⟨2, 5, 1, 1, 0, 0, 5⟩ = 2 by rfl] at ST
  refine ST.out.mono ?_
  rintro e w4 ⟨rfl, A9, M9, K9⟩
  replace K := K.then K9 (by simp; omega)
  replace T := T.keptL K9 (by have := HM.out.pos; simp; omega)
  clear ST HM HA K9
  have HM := hidOf M9
  have HA := hidOf A9
  clear M9 A9
  go_wp2_with fail
  refine (knew_any 1 _).mono ?_
  rintro e w5 ⟨b, rfl, hb, B, K5⟩
  have alt := HA.out.lt
  have sz2 := K.size
  replace HM := hidOf (HM.out.new K5)
  replace HA := hidOf (HA.out.kept K5 (by simp))
  have HB := hidOf B
  replace T := T.kept K5
  replace K := K.trans K5
  obtain ⟨nb1, nb2, nb3⟩ := B.nm HM.out
  clear K5 B
  go_wp2_with fail
  have ST := hidOf (step_any b m p r c9 cs1 2 _ ⟨0, 1, 0, 0, 0, 0, 1⟩ _ HB.out HM.out T ⟨fun h => by simp at h, by decide⟩ cs1_wd (by decide) (by decide) (by decide) (by decide))
  rw [show stK c9 cs1 ⟨0, 1, 0, 0, 0, 0, 1⟩ = ⟨3, 1, 1, 0, 1, 0, 1⟩ by rfl, show stC c9 cs1 ⟨0, 1, 0, 0, 0, 0, 1⟩ = cs1 by rfl, show stN 2 ⟨0, 1, 0, 0, 0, 0, 1⟩ = 3 by rfl] at ST
  refine ST.out.mono ?_
  rintro e w4 ⟨rfl, A9, M9, K9⟩
  have HO := hidOf (HA.out.kept K9 (by simp; omega))
  clear HA
  have HA := hidOf HO.out
  clear HO
  replace K := K.then K9 (by simp; omega)
  replace T := T.keptL K9 (by have := HM.out.pos; simp; omega)
  clear ST HM HB K9
  have HM := hidOf M9
  have HB := hidOf A9
  clear M9 A9
  go_wp2_with (first
    | (go_at_call 16; (first | (refine (kdone_any a _ _ HA.out).mono ?_; rintro e w2 ⟨rfl, rfl⟩) | (refine (kdone_any b _ _ HB.out).mono ?_; rintro e w2 ⟨rfl, rfl⟩)))
    | (go_at_call 17; (first | (refine (kgot_any a _ _ HA.out).mono ?_; rintro e w2 ⟨rfl, rfl⟩) | (refine (kgot_any b _ _ HB.out).mono ?_; rintro e w2 ⟨rfl, rfl⟩)))
    | (go_at_call 18; (first | (refine (knext_any a _ _ HA.out).mono ?_; rintro e w2 ⟨rfl, rfl⟩) | (refine (knext_any b _ _ HB.out).mono ?_; rintro e w2 ⟨rfl, rfl⟩)))
    | (go_at_call 22; refine (bank_any m p r c9 _ _ _ _ HM.out).mono ?_; rintro e w2 ⟨rfl, rfl⟩)
    | (go_at_call 23; refine (count_any p r _ _ _ _ HM.out.bk).mono ?_; rintro e w2 ⟨rfl, rfl⟩))
  have ST := hidOf (step_any b m p r c9 cs1 3 _ ⟨3, 1, 1, 0, 1, 0, 1⟩ _ HB.out HM.out T ⟨fun _ h => by simp at h, by decide⟩ cs1_wd (by decide) (by decide) (by decide) (by decide))
  rw [show stK c9 cs1 ⟨3, 1, 1, 0, 1, 0, 1⟩ = ⟨3, 1, 1, 0, 1, 0, 1⟩ by rfl, show stC c9 cs1 ⟨3, 1, 1, 0, 1, 0, 1⟩ = cs1 by rfl, show stN 3 ⟨3, 1, 1, 0, 1, 0, 1⟩ = 3 by rfl] at ST
  refine ST.out.mono ?_
  rintro e w4 ⟨rfl, A9, M9, K9⟩
  have HO := hidOf (HA.out.kept K9 (by simp; omega))
  clear HA
  have HA := hidOf HO.out
  clear HO
  replace K := K.then K9 (by simp; omega)
  replace T := T.keptL K9 (by have := HM.out.pos; simp; omega)
  clear ST HM HB K9
  have HM := hidOf M9
  have HB := hidOf A9
  clear M9 A9
  go_wp2_with (first
    | (go_at_call 16; (first | (refine (kdone_any a _ _ HA.out).mono ?_; rintro e w2 ⟨rfl, rfl⟩) | (refine (kdone_any b _ _ HB.out).mono ?_; rintro e w2 ⟨rfl, rfl⟩)))
    | (go_at_call 17; (first | (refine (kgot_any a _ _ HA.out).mono ?_; rintro e w2 ⟨rfl, rfl⟩) | (refine (kgot_any b _ _ HB.out).mono ?_; rintro e w2 ⟨rfl, rfl⟩)))
    | (go_at_call 18; (first | (refine (knext_any a _ _ HA.out).mono ?_; rintro e w2 ⟨rfl, rfl⟩) | (refine (knext_any b _ _ HB.out).mono ?_; rintro e w2 ⟨rfl, rfl⟩)))
    | (go_at_call 22; refine (bank_any m p r c9 _ _ _ _ HM.out).mono ?_; rintro e w2 ⟨rfl, rfl⟩)
    | (go_at_call 23; refine (count_any p r _ _ _ _ HM.out.bk).mono ?_; rintro e w2 ⟨rfl, rfl⟩))
  have BK := hidOf (back_any m p r c9 cs1 3 _ 9223372036854775809 _ HM.out T (by decide) (by decide) (by decide) (by decide))
  rw [show clV cs1 2 (clV' c9 (ixV 9223372036854775809) 0) 0 (bkV c9 9223372036854775809) = cs4 by rfl, show (3 : Int) + 1 = 4 by rfl] at BK
  refine BK.out.mono ?_
  rintro e w6 ⟨rfl, M9, K9⟩
  replace HA := hidOf (HA.out.kept K9 (by simp; omega))
  replace HB := hidOf (HB.out.kept K9 (by simp; omega))
  replace K := K.then K9 (by simp; omega)
  clear HM BK K9 T
  have HM := hidOf M9
  clear M9
  go_wp2_with (first
    | (go_at_call 16; (first | (refine (kdone_any a _ _ HA.out).mono ?_; rintro e w2 ⟨rfl, rfl⟩) | (refine (kdone_any b _ _ HB.out).mono ?_; rintro e w2 ⟨rfl, rfl⟩)))
    | (go_at_call 17; (first | (refine (kgot_any a _ _ HA.out).mono ?_; rintro e w2 ⟨rfl, rfl⟩) | (refine (kgot_any b _ _ HB.out).mono ?_; rintro e w2 ⟨rfl, rfl⟩)))
    | (go_at_call 18; (first | (refine (knext_any a _ _ HA.out).mono ?_; rintro e w2 ⟨rfl, rfl⟩) | (refine (knext_any b _ _ HB.out).mono ?_; rintro e w2 ⟨rfl, rfl⟩)))
    | (go_at_call 22; refine (bank_any m p r c9 _ _ _ _ HM.out).mono ?_; rintro e w2 ⟨rfl, rfl⟩)
    | (go_at_call 23; refine (count_any p r _ _ _ _ HM.out.bk).mono ?_; rintro e w2 ⟨rfl, rfl⟩))
  have MT := hidOf (mmeta_any m p r c9 cs4 4 _ 1 _ HM.out (by decide) (by decide))
  rw [show (acV cs4 1 (clV' c9 1 0) 0 0 0).o = 4 by rfl] at MT
  refine MT.out.mono ?_
  rintro e w7 ⟨rfl, M9, K9⟩
  replace K := K.then K9 (by simp; omega)
  clear M9 MT K9 HM HA HB
  go_wp2
  go_ret
  exact ⟨rfl, K⟩
end K
end Go.Proofs.YtmmpafhfanldbaaDoor
