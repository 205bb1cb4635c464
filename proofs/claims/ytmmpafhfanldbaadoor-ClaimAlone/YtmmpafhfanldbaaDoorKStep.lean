/-
  The contracts of package claim: any step.
-/
import Derived.Test.YtmmpafhfanldbaaDoorKBg
namespace Go.Proofs.YtmmpafhfanldbaaDoor
open Go.RowKit (Grown Hid Below)
open Go.Deep
namespace K
theorem hidOf {p : Prop} (h : p) : Hid p := h
/-- What a step makes of a claim, of the cells, and which access it is. -/
def stK (c : Cfg) (cs : List Int) (s : Ks) : Ks := if s.ph = 0 then beginK c cs s else if s.ph = 1 then lookK c cs s else if s.ph = 2 then takeK c cs s else s
def stC (c : Cfg) (cs : List Int) (s : Ks) : List Int := if s.ph = 2 then tkC c cs s else cs
def stN (cnt : Int) (s : Ks) : Int := if s.ph ≤ 2 then cnt + 1 else cnt
def stA (c : Cfg) (cs : List Int) (a : Acc) (s : Ks) : Acc := if s.ph = 0 then acV cs 1 (clV' c (bgI c s.fr) 0) 0 0 0 else if s.ph = 1 then acV cs 1 (clV' c s.ix 0) 0 0 0 else if s.ph = 2 then tkA c cs s else a
def Wds (cs : List Int) : Prop := ∀ x ∈ cs, 0 ≤ x ∧ x < 18446744073709551616
structure KI (c : Cfg) (s : Ks) : Prop where
  pos : 1 ≤ s.ph → s.ph ≤ 2 → 1 ≤ s.ix ∧ s.ix ≤ c.c ∧ 1 ≤ s.lf ∧ s.lf ≤ c.c
  lk : 0 ≤ s.lk ∧ s.lk < 18446744073709551616
theorem wd_getD {cs : List Int} (h : Wds cs) (n : Nat) : 0 ≤ cs.getD n 0 ∧ cs.getD n 0 < 18446744073709551616 := by
  by_cases hn : n < cs.length
  · rw [List.getD_eq_getElem?_getD, List.getElem?_eq_getElem hn]; exact h _ (List.getElem_mem hn)
  · rw [List.getD_eq_getElem?_getD, List.getElem?_eq_none (by omega)]; decide
theorem wdK_bd {cs : List Int} (h : Wds cs) (c : Cfg) (x : Int) : 0 ≤ wdK c cs x ∧ wdK c cs x < 18446744073709551616 := by
  unfold wdK acV; split
  · exact wd_getD h _
  · exact ⟨Int.le_refl _, by show (0 : Int) < 18446744073709551616; decide⟩
theorem clV_load (cs : List Int) (x old v : Int) : clV cs 1 x old v = cs := by
  unfold clV; split
  · rename_i h
    have e : bhV 1 (cs.getD x.toNat 0) old v = cs.getD x.toNat 0 := by simp [bhV]
    rw [e]
    have hx : x.toNat < cs.length := by unfold hasC at h; omega
    rw [List.getD_eq_getElem?_getD, List.getElem?_eq_getElem hx]; simp
  · rfl
theorem Wds.set {cs : List Int} (h : Wds cs) (n : Nat) {v : Int} (hv : 0 ≤ v ∧ v < 18446744073709551616) : Wds (cs.set n v) := by
  intro x hx
  rcases List.mem_or_eq_of_mem_set hx with hx | rfl
  · exact h x hx
  · exact hv
theorem Wds.clV {cs : List Int} (h : Wds cs) (k x old : Int) {v : Int} (hk : ¬ k = 4) (hv : 0 ≤ v ∧ v < 18446744073709551616) : Wds (clV cs k x old v) := by
  unfold Go.Proofs.YtmmpafhfanldbaaDoor.clV; split
  · refine h.set _ ?_
    unfold bhV; split
    · exact hv
    · split
      · split
        · exact hv
        · exact wd_getD h _
      · first | (rw [if_neg hk]; exact wd_getD h _) | exact wd_getD h _
  · exact h
theorem me_bd (x : Int) (h0 : 0 ≤ x) : 0 ≤ S.meV 1 (S.gnV x) ∧ S.meV 1 (S.gnV x) < 18446744073709551616 := by
  have := S.gn_bd x h0; unfold S.meV; omega
theorem stC_wd {c : Cfg} {cs : List Int} {s : Ks} (h : Wds cs) (hs : KI c s) : Wds (stC c cs s) := by
  unfold stC; split
  · exact h.clV 3 _ _ (by decide) (me_bd _ hs.lk.1)
  · exact h
theorem stC_len (c : Cfg) (cs : List Int) (s : Ks) : (stC c cs s).length = cs.length := by
  unfold stC tkC Go.Proofs.YtmmpafhfanldbaaDoor.clV; split
  · split
    · simp
    · rfl
  · rfl
theorem bhI_bd {c : Cfg} {x : Int} (h0 : 1 ≤ c.c) (h1 : 1 ≤ x) : 1 ≤ bhI c x ∧ bhI c x ≤ c.c := by unfold bhI; split <;> omega
theorem bgI_bd {c : Cfg} (x : Int) (h0 : 1 ≤ c.c) : 1 ≤ bgI c x ∧ bgI c x ≤ c.c := by unfold bgI; split <;> omega
theorem passK_ki {c : Cfg} {s : Ks} (h0 : 1 ≤ c.c) (h1 : 1 ≤ s.ix) (h2 : 1 ≤ s.lf) (h3 : s.lf ≤ c.c) (h4 : 0 ≤ s.lk ∧ s.lk < 18446744073709551616) : KI c (passK c s) := by
  unfold passK; split
  · exact ⟨fun _ h => by simp at h, h4⟩
  · have := bhI_bd (c := c) h0 h1
    exact ⟨fun _ _ => ⟨this.1, this.2, by show 1 ≤ s.lf - 1; omega, by show s.lf - 1 ≤ c.c; omega⟩, h4⟩
theorem lookK_ki {c : Cfg} {cs : List Int} {s : Ks} (hw : Wds cs) (h0 : 1 ≤ c.c) (h1 : 1 ≤ s.ix) (h5 : s.ix ≤ c.c) (h2 : 1 ≤ s.lf) (h3 : s.lf ≤ c.c) : KI c (lookK c cs s) := by
  have hx := wdK_bd hw c s.ix
  unfold lookK; split
  · exact ⟨fun _ _ => ⟨h1, h5, h2, h3⟩, hx⟩
  · exact passK_ki h0 h1 h2 h3 hx
theorem stK_ki {c : Cfg} {cs : List Int} {s : Ks} (hw : Wds cs) (h0 : 1 ≤ c.c) (hs : KI c s) : KI c (stK c cs s) := by
  unfold stK; split
  · have := bgI_bd (c := c) s.fr h0
    exact lookK_ki hw h0 this.1 this.2 h0 (Int.le_refl _)
  · split
    · rename_i h
      obtain ⟨a, b, d, e⟩ := hs.pos (by omega) (by omega)
      exact lookK_ki hw h0 a b d e
    · split
      · rename_i h
        obtain ⟨a, b, d, e⟩ := hs.pos (by omega) (by omega)
        unfold takeK; split
        · exact ⟨fun _ h => by simp at h, hs.lk⟩
        · exact passK_ki h0 a d e hs.lk
      · exact hs
set_option maxRecDepth 100000 in
set_option maxHeartbeats 2000000 in
theorem step_any (b m p r : Nat) (c : Cfg) (cs : List Int) (cnt : Int) (a : Acc) (s : Ks) (w : World) (hK : KS w b s) (hM : Mm w m p r c cs cnt a) (hT : Tab w) (hI : KI c s) (hw : Wds cs) (h0 : 1 ≤ c.c) (h1 : c.c ≤ 64) (c0 : 0 ≤ cnt) (c1 : cnt < 4611686018427387904) :
    Calls Tryd.prog 13 #[.pointer (some ⟨b, 0, none⟩), .pointer (some ⟨m, 0, none⟩)] w fun e w' => e = .returned (.tuple #[]) ∧ KS w' b (stK c cs s) ∧ Mm w' m p r c (stC c cs s) (stN cnt s) (stA c cs a s) ∧ Kept [b, p, r] w w' := by
  obtain ⟨ph, fr, ix, lf, lk, gt, nx⟩ := s
  obtain ⟨hp, hl⟩ := hI
  rcases (by omega : ph = 0 ∨ ph = 1 ∨ ph = 2 ∨ 3 ≤ ph) with rfl | rfl | rfl | h3
  · have eC : stC c cs ⟨0, fr, ix, lf, lk, gt, nx⟩ = clV cs 1 (clV' c (bgI c fr) 0) 0 0 := (clV_load _ _ _ _).symm
    rw [eC]; clear eC
    have q1 := cell_of_blk hK (i := 1) rfl
    have hD := done_no b 37 fr ix lf lk gt nx w hK
    have HN := hidOf (begin_any b m p r _ c cs cnt a 0 fr ix lf lk gt nx w hK hM h0 h1 c0 c1 (wdK_bd hw c (bgI c fr)).1 (wdK_bd hw c (bgI c fr)).2)
    have HD := hidOf (hD)
    clear hD hK hM hT hp hl hw
    unfold phV fnV at q1
    go_enter Tryd.func13, Tryd.ntmps13
    go_wp2_with fail
    refine HD.out.mono ?_
    rintro e w1 ⟨rfl, rfl⟩
    go_wp2_with fail
    refine HN.out.mono ?_
    rintro e w2 ⟨rfl, S2, M2, K2⟩
    have HF : Hid (KS w2 b _ ∧ Mm w2 m p r c _ _ _ ∧ Kept [b, p, r] _ w2) := ⟨S2, M2, K2⟩
    clear S2 M2 K2
    go_wp2
    go_end0
    exact ⟨rfl, HF.out⟩
  · obtain ⟨i0, i1, l0, l1⟩ := hp (by simp) (by simp)
    have eC : stC c cs ⟨1, fr, ix, lf, lk, gt, nx⟩ = clV cs 1 (clV' c ix 0) 0 0 := (clV_load _ _ _ _).symm
    rw [eC]; clear eC
    have i0' : 0 ≤ ix := by have : 1 ≤ ix := i0; omega
    have l1' : lf ≤ 64 := by have : lf ≤ c.c := l1; omega
    have q1 := cell_of_blk hK (i := 1) rfl
    have hD := done_no b 66 fr ix lf lk gt nx w hK
    have HN := hidOf (look_any b m p r _ c cs cnt a 1 fr ix lf lk gt nx w hK hM i0' h1 l0 l1' c0 c1 (wdK_bd hw c ix).1 (wdK_bd hw c ix).2)
    have HD := hidOf (hD)
    clear hD hK hM hT hp hl hw
    unfold phV fnV at q1
    go_enter Tryd.func13, Tryd.ntmps13
    go_wp2_with fail
    refine HD.out.mono ?_
    rintro e w1 ⟨rfl, rfl⟩
    go_wp2_with fail
    refine HN.out.mono ?_
    rintro e w2 ⟨rfl, S2, M2, K2⟩
    have HF : Hid (KS w2 b _ ∧ Mm w2 m p r c _ _ _ ∧ Kept [b, p, r] _ w2) := ⟨S2, M2, K2⟩
    clear S2 M2 K2
    go_wp2
    go_end0
    exact ⟨rfl, HF.out⟩
  · obtain ⟨i0, i1, l0, l1⟩ := hp (by simp) (by simp)
    have i0' : 0 ≤ ix := by have : 1 ≤ ix := i0; omega
    have i1' : ix ≤ 64 := by have : ix ≤ c.c := i1; omega
    have l1' : lf ≤ 64 := by have : lf ≤ c.c := l1; omega
    have q1 := cell_of_blk hK (i := 1) rfl
    have hD := done_no b 86 fr ix lf lk gt nx w hK
    have HN := hidOf (take_any b m p r _ c cs cnt a 2 fr ix lf lk gt nx w hK hM hT i0' i1' h1 l0 l1' c0 c1 hl.1 hl.2)
    have HD := hidOf (hD)
    clear hD hK hM hT hp hl hw
    unfold phV fnV at q1
    go_enter Tryd.func13, Tryd.ntmps13
    go_wp2_with fail
    refine HD.out.mono ?_
    rintro e w1 ⟨rfl, rfl⟩
    go_wp2_with fail
    refine HN.out.mono ?_
    rintro e w2 ⟨rfl, S2, M2, K2⟩
    have HF : Hid (KS w2 b _ ∧ Mm w2 m p r c _ _ _ ∧ Kept [b, p, r] _ w2) := ⟨S2, M2, K2⟩
    clear S2 M2 K2
    go_wp2
    go_end0
    exact ⟨rfl, HF.out⟩
  · have eK : KB w b .nilFunc fr ix lf lk gt nx := by
      have z := hK
      unfold KS phV at z
      rw [if_neg (by show ¬ ph = 0; omega), if_neg (by show ¬ ph = 1; omega), if_neg (by show ¬ ph = 2; omega)] at z
      exact z
    have e1 : stK c cs ⟨ph, fr, ix, lf, lk, gt, nx⟩ = ⟨ph, fr, ix, lf, lk, gt, nx⟩ := by
      unfold stK; rw [if_neg (by show ¬ ph = 0; omega), if_neg (by show ¬ ph = 1; omega), if_neg (by show ¬ ph = 2; omega)]
    have e2 : stC c cs ⟨ph, fr, ix, lf, lk, gt, nx⟩ = cs := by unfold stC; rw [if_neg (by show ¬ ph = 2; omega)]
    have e3 : stN cnt ⟨ph, fr, ix, lf, lk, gt, nx⟩ = cnt := by unfold stN; rw [if_neg (by show ¬ ph ≤ 2; omega)]
    have e4 : stA c cs a ⟨ph, fr, ix, lf, lk, gt, nx⟩ = a := by
      unfold stA; rw [if_neg (by show ¬ ph = 0; omega), if_neg (by show ¬ ph = 1; omega), if_neg (by show ¬ ph = 2; omega)]
    rw [e1, e2, e3, e4]
    have HD := hidOf (done_yes b fr ix lf lk gt nx w eK)
    have HF : Hid (KS w b ⟨ph, fr, ix, lf, lk, gt, nx⟩ ∧ Mm w m p r c cs cnt a ∧ Kept [b, p, r] w w) := ⟨hK, hM, Kept.refl _ _⟩
    clear eK e1 e2 e3 e4 hK hM hT hp hl hw
    go_enter Tryd.func13, Tryd.ntmps13
    go_wp2_with fail
    refine HD.out.mono ?_
    rintro e w1 ⟨rfl, rfl⟩
    go_wp2
    go_end0
    exact ⟨rfl, HF.out⟩
end K
end Go.Proofs.YtmmpafhfanldbaaDoor
