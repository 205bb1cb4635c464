/-
  The contracts of package claim: a claim's steps.
-/
import Derived.Test.YtmmpafhfanldbaaDoorKCl
import Derived.Deep.RegionHeld3
namespace Go.Proofs.YtmmpafhfanldbaaDoor
open Go.RowKit (Grown Hid Below)
open Go.Deep
namespace K
/-- What a claim holds: what comes next (0: it begins, 1: it looks, 2: it takes, 3: it is done), and its numbers. -/
structure Ks where
  ph : Nat
  fr : Int
  ix : Int
  lf : Int
  lk : Int
  gt : Int
  nx : Int
def phV (n b : Nat) : Value := if n = 0 then fnV 37 b else if n = 1 then fnV 66 b else if n = 2 then fnV 86 b else .nilFunc
def KS (w : World) (b : Nat) (s : Ks) : Prop := KB w b (phV s.ph b) s.fr s.ix s.lf s.lk s.gt s.nx
theorem KS.kept {l : List Nat} {w w' : World} {b : Nat} {s : Ks} (h : KS w b s) (k : Kept l w w') (hb : b ∉ l) : KS w' b s := KB.kept h k hb
def passK (c : Cfg) (s : Ks) : Ks := if s.lf = 1 then ⟨3, s.fr, s.ix, 0, s.lk, s.gt, s.nx⟩ else ⟨1, s.fr, bhI c s.ix, s.lf - 1, s.lk, s.gt, s.nx⟩
def wdK (c : Cfg) (cs : List Int) (x : Int) : Int := (acV cs 1 (clV' c x 0) 0 0 0).o
def lookK (c : Cfg) (cs : List Int) (s : Ks) : Ks := if S.stV (wdK c cs s.ix) = 0 then ⟨2, s.fr, s.ix, s.lf, wdK c cs s.ix, s.gt, s.nx⟩ else passK c ⟨1, s.fr, s.ix, s.lf, wdK c cs s.ix, s.gt, s.nx⟩
def tkA (c : Cfg) (cs : List Int) (s : Ks) : Acc := acV cs 3 (clV' c s.ix 0) 0 s.lk (S.meV 1 (S.gnV s.lk))
def tkC (c : Cfg) (cs : List Int) (s : Ks) : List Int := clV cs 3 (clV' c s.ix 0) s.lk (S.meV 1 (S.gnV s.lk))
def takeK (c : Cfg) (cs : List Int) (s : Ks) : Ks := if (tkA c cs s).d = true then ⟨3, s.fr, s.ix, s.lf, s.lk, packV s.ix (S.gnV s.lk) false, bhI c s.ix⟩ else passK c s
theorem pass_any (b m p r : Nat) (v : Value) (c : Cfg) (cs : List Int) (cnt : Int) (a : Acc) (ph : Nat) (fr ix lf lk gt nx : Int) (w : World) (hK : KB w b v fr ix lf lk gt nx) (hM : Mm w m p r c cs cnt a) (h0 : 0 ≤ ix) (h1 : c.c ≤ 64) (l0 : 1 ≤ lf) (l1 : lf ≤ 64) :
    Calls Tryd.prog 85 #[.pointer (some ⟨b, 0, none⟩), .pointer (some ⟨m, 0, none⟩)] w fun e w' => e = .returned (.tuple #[]) ∧ KS w' b (passK c ⟨ph, fr, ix, lf, lk, gt, nx⟩) ∧ Kept [b] w w' := by
  by_cases h : lf = 1
  · subst h
    refine (pass_last b m v fr ix lk gt nx w hK).mono ?_
    rintro e w1 ⟨rfl, Z, K⟩
    refine ⟨rfl, ?_, K⟩
    rw [show passK c ⟨ph, fr, ix, 1, lk, gt, nx⟩ = ⟨3, fr, ix, 0, lk, gt, nx⟩ from if_pos rfl]
    exact Z
  · refine (pass_on b m p r v c cs cnt a fr ix lf lk gt nx w hK hM h0 h1 (by omega) l1).mono ?_
    rintro e w1 ⟨rfl, Z, K⟩
    refine ⟨rfl, ?_, K⟩
    rw [show passK c ⟨ph, fr, ix, lf, lk, gt, nx⟩ = ⟨1, fr, bhI c ix, lf - 1, lk, gt, nx⟩ from if_neg h]
    exact Z
set_option maxRecDepth 100000 in
set_option maxHeartbeats 2000000 in
theorem look_any (b m p r : Nat) (v : Value) (c : Cfg) (cs : List Int) (cnt : Int) (a : Acc) (ph : Nat) (fr ix lf lk gt nx : Int) (w : World) (hK : KB w b v fr ix lf lk gt nx) (hM : Mm w m p r c cs cnt a) (h0 : 0 ≤ ix) (h1 : c.c ≤ 64) (l0 : 1 ≤ lf) (l1 : lf ≤ 64) (c0 : 0 ≤ cnt) (c1 : cnt < 4611686018427387904) (x0 : 0 ≤ wdK c cs ix) (x1 : wdK c cs ix < 18446744073709551616) :
    Calls Tryd.prog 66 #[.pointer (some ⟨b, 0, none⟩), .pointer (some ⟨m, 0, none⟩)] w fun e w' => e = .returned (.tuple #[]) ∧ KS w' b (lookK c cs ⟨ph, fr, ix, lf, lk, gt, nx⟩) ∧ Mm w' m p r c (clV cs 1 (clV' c ix 0) 0 0) (cnt + 1) (acV cs 1 (clV' c ix 0) 0 0 0) ∧ Kept [b, p, r] w w' := by
  obtain ⟨n1, n2, n3⟩ := hK.nm hM
  have MT : Hid (Calls Tryd.prog 27 #[.pointer (some ⟨m, 0, none⟩), .int .i64 ix] w fun e w' => e = .returned (.int .u64 (wdK c cs ix)) ∧ Mm w' m p r c (clV cs 1 (clV' c ix 0) 0 0) (cnt + 1) (acV cs 1 (clV' c ix 0) 0 0 0) ∧ Kept [p, r] w w') := mmeta_any m p r c cs cnt a ix w hM c0 c1
  have E : lookK c cs ⟨ph, fr, ix, lf, lk, gt, nx⟩ = if S.stV (wdK c cs ix) = 0 then ⟨2, fr, ix, lf, wdK c cs ix, gt, nx⟩ else passK c ⟨1, fr, ix, lf, wdK c cs ix, gt, nx⟩ := rfl
  rw [E]; clear E hM
  generalize wdK c cs ix = X at *
  generalize acV cs 1 (clV' c ix 0) 0 0 0 = A at *
  generalize clV cs 1 (clV' c ix 0) 0 0 = C at *
  have q2 := cell_of_blk hK (i := 2) rfl
  have HB : Hid (KB w b v fr ix lf lk gt nx) := hK
  clear hK
  obtain ⟨T, hT⟩ : ∃ T, S.stV X = T := ⟨_, rfl⟩
  have ST : Hid (∀ W : World, Calls Tryd.prog 28 #[.int .u64 X] W fun e w' => e = .returned (.int .i64 T) ∧ Kept [] W w') := fun W => hT ▸ S.state_any X W x0 x1
  rw [hT]; clear hT
  by_cases hz : T = 0
  · rw [if_pos hz]
    subst hz
    go_enter Tryd.func66, Tryd.ntmps66
    go_wp2_with fail
    refine MT.out.mono ?_
    rintro e w1 ⟨rfl, M1, K1⟩
    have Z : KB w1 b v fr ix lf lk gt nx := K1.blk HB.out (by simp; omega)
    have q4 := cell_of_blk Z (i := 4) rfl
    have hf := free_of_blk Z
    have HZ : Hid (KB w1 b v fr ix lf lk gt nx) := Z
    have HM : Hid (Mm w1 m p r c C (cnt + 1) A) := M1
    clear Z M1 q2
    go_wp2_with fail
    refine (ST.out _).mono ?_
    rintro e w2 ⟨rfl, K2⟩
    have Z2 : KB w2 b v fr ix lf X gt nx := K2.blk (by have z := blk_set HZ.out 4 (.int .u64 X); simpa [KB] using z) (by simp)
    have KX : Kept [b, p, r] w w2 := ((K1.weaken (m := [b, p, r]) (by simp)).setCell (p := ⟨b, 4, none⟩) (Or.inl (by simp)) (.int .u64 X)).then K2 (by simp)
    have M2 := (HM.out.kept ((Kept.refl [b] w1).setCell (p := ⟨b, 4, none⟩) (Or.inl (by simp)) (.int .u64 X)) (by simp; omega) (by simp; omega) (by simp; omega)).new K2
    have q1 := cell_of_blk Z2 (i := 1) rfl
    have hf2 := free_of_blk Z2
    have HZ2 : Hid _ := Z2
    have HM2 : Hid _ := M2
    clear Z2 M2 K2 q4 hf HZ HM
    go_wp2
    go_end0
    refine ⟨rfl, ?_, HM2.out.kept ((Kept.refl [b] w2).setCell (Or.inl (by simp)) _) (by simp; omega) (by simp; omega) (by simp; omega), KX.setCell (Or.inl (by simp)) _⟩
    have z := blk_set HZ2.out 1 (fnV 86 b)
    simpa [KS, KB, phV, fnV] using z
  · rw [if_neg hz]
    have hz1 : (T == 0) = false := by simp [hz]
    go_enter Tryd.func66, Tryd.ntmps66
    go_wp2_with fail
    refine MT.out.mono ?_
    rintro e w1 ⟨rfl, M1, K1⟩
    have Z : KB w1 b v fr ix lf lk gt nx := K1.blk HB.out (by simp; omega)
    have q4 := cell_of_blk Z (i := 4) rfl
    have hf := free_of_blk Z
    have HZ : Hid (KB w1 b v fr ix lf lk gt nx) := Z
    have HM : Hid (Mm w1 m p r c C (cnt + 1) A) := M1
    clear Z M1 q2
    go_wp2_with fail
    refine (ST.out _).mono ?_
    rintro e w2 ⟨rfl, K2⟩
    have Z2 : KB w2 b v fr ix lf X gt nx := K2.blk (by have z := blk_set HZ.out 4 (.int .u64 X); simpa [KB] using z) (by simp)
    have KX : Kept [b, p, r] w w2 := ((K1.weaken (m := [b, p, r]) (by simp)).setCell (p := ⟨b, 4, none⟩) (Or.inl (by simp)) (.int .u64 X)).then K2 (by simp)
    have M2 := (HM.out.kept ((Kept.refl [b] w1).setCell (p := ⟨b, 4, none⟩) (Or.inl (by simp)) (.int .u64 X)) (by simp; omega) (by simp; omega) (by simp; omega)).new K2
    have HZ2 : Hid _ := Z2
    have HM2 : Hid _ := M2
    clear Z2 M2 K2 q4 hf HZ HM
    go_wp2_with fail
    refine (pass_any b m p r v c C (cnt + 1) A 1 fr ix lf X gt nx _ HZ2.out HM2.out h0 h1 l0 l1).mono ?_
    rintro e w3 ⟨rfl, S3, K3⟩
    have HM3 : Hid _ := HM2.out.kept K3 (by simp; omega) (by simp; omega) (by simp; omega)
    clear HM2
    go_wp2
    exact bodyPost_ret (v := .tuple #[]) (by simp [results, Tryd.results66, go_sem]) rfl ⟨rfl, S3, HM3.out, KX.then K3 (by simp)⟩
set_option maxRecDepth 100000 in
set_option maxHeartbeats 2000000 in
theorem take_any (b m p r : Nat) (v : Value) (c : Cfg) (cs : List Int) (cnt : Int) (a : Acc) (ph : Nat) (fr ix lf lk gt nx : Int) (w : World) (hK : KB w b v fr ix lf lk gt nx) (hM : Mm w m p r c cs cnt a) (hT : Tab w) (h0 : 0 ≤ ix) (h2 : ix ≤ 64) (h1 : c.c ≤ 64) (l0 : 1 ≤ lf) (l1 : lf ≤ 64) (c0 : 0 ≤ cnt) (c1 : cnt < 4611686018427387904) (x0 : 0 ≤ lk) (x1 : lk < 18446744073709551616) :
    Calls Tryd.prog 86 #[.pointer (some ⟨b, 0, none⟩), .pointer (some ⟨m, 0, none⟩)] w fun e w' => e = .returned (.tuple #[]) ∧ KS w' b (takeK c cs ⟨ph, fr, ix, lf, lk, gt, nx⟩) ∧ Mm w' m p r c (tkC c cs ⟨ph, fr, ix, lf, lk, gt, nx⟩) (cnt + 1) (tkA c cs ⟨ph, fr, ix, lf, lk, gt, nx⟩) ∧ Kept [b, p, r] w w' := by
  obtain ⟨n1, n2, n3⟩ := hK.nm hM
  obtain ⟨g0, g1⟩ := S.gn_bd lk x0
  obtain ⟨G, hG⟩ : ∃ G, S.gnV lk = G := ⟨_, rfl⟩
  have GN : Hid (∀ W : World, Calls Tryd.prog 30 #[.int .u64 lk] W fun e w' => e = .returned (.int .i64 G) ∧ Kept [] W w') := fun W => hG ▸ S.gen_any lk W x0 x1
  have ME : Hid (∀ W : World, Calls Tryd.prog 81 #[.int .i64 1, .int .i64 G] W fun e w' => e = .returned (.tuple #[.int .u64 (S.meV 1 G), .bool true]) ∧ Kept [] W w') := fun W => hG ▸ S.meta_yes 1 _ W (by unfold S.meB; rw [decide_eq_true_eq]; omega)
  have PA : Hid (∀ W : World, Tab W → Calls Tryd.prog 90 #[.int .i64 ix, .int .i64 G, .bool false] W fun e w' => e = .returned (.tuple #[.int .u64 (packV ix G false), .bool true]) ∧ Kept [] W w') := fun W ht => hG ▸ pack_yes ix _ false W ht (by unfold fitB; simp; omega)
  have E1 : takeK c cs ⟨ph, fr, ix, lf, lk, gt, nx⟩ = if (tkA c cs ⟨ph, fr, ix, lf, lk, gt, nx⟩).d = true then ⟨3, fr, ix, lf, lk, packV ix G false, bhI c ix⟩ else passK c ⟨ph, fr, ix, lf, lk, gt, nx⟩ := by rw [← hG]; rfl
  have E2 : tkA c cs ⟨ph, fr, ix, lf, lk, gt, nx⟩ = acV cs 3 (clV' c ix 0) 0 lk (S.meV 1 G) := by rw [← hG]; rfl
  have E3 : tkC c cs ⟨ph, fr, ix, lf, lk, gt, nx⟩ = clV cs 3 (clV' c ix 0) lk (S.meV 1 G) := by rw [← hG]; rfl
  rw [E1, E2, E3]
  clear E1 E2 E3 hG g0 g1
  have TK : Hid (∀ W : World, Kept [] w W → Calls Tryd.prog 92 #[.pointer (some ⟨m, 0, none⟩), .int .i64 ix, .int .u64 lk, .int .u64 (S.meV 1 G)] W fun e w' => e = .returned (.bool (acV cs 3 (clV' c ix 0) 0 lk (S.meV 1 G)).d) ∧ Mm w' m p r c (clV cs 3 (clV' c ix 0) lk (S.meV 1 G)) (cnt + 1) (acV cs 3 (clV' c ix 0) 0 lk (S.meV 1 G)) ∧ Kept [p, r] w w') := fun W k => (mtake_any m p r c cs cnt a ix lk (S.meV 1 G) W (hM.new k) c0 c1).mono fun _ _ hh => ⟨hh.1, hh.2.1, (k.weaken (by simp)).trans hh.2.2⟩
  have HM : Hid (Mm w m p r c cs cnt a) := hM
  clear hM
  generalize S.meV 1 G = V at *
  generalize acV cs 3 (clV' c ix 0) 0 lk V = A at *
  generalize clV cs 3 (clV' c ix 0) lk V = C at *
  generalize packV ix G false = P at *
  have q4 := cell_of_blk hK (i := 4) rfl
  have HB : Hid (KB w b v fr ix lf lk gt nx) := hK
  have HT : Hid (Tab w) := hT
  clear hK hT
  have HS : Hid (∀ W' : World, Kept [p, r] w W' → W'.cell? ⟨b, 2, none⟩ = some (.int .i64 ix) ∧ W'.cell? ⟨b, 4, none⟩ = some (.int .u64 lk)) := by
    intro W' k
    have z := k.blk HB.out (by simp; omega)
    exact ⟨cell_of_blk z (i := 2) rfl, cell_of_blk z (i := 4) rfl⟩
  by_cases hd : A.d = true
  · rw [if_pos hd]
    rw [hd] at TK
    go_enter Tryd.func86, Tryd.ntmps86
    go_wp2_with fail
    refine (GN.out _).mono ?_
    rintro e w1 ⟨rfl, K1⟩
    go_wp2_with fail
    refine (ME.out _).mono ?_
    rintro e w2 ⟨rfl, K2⟩
    have K3 : Kept [] w w2 := K1.trans K2
    clear q4 K1 K2
    go_wp2_with fail
    go_region_held3 (fun W' => W'.cell? ⟨b, 2, none⟩ = some (.int .i64 ix) ∧ W'.cell? ⟨b, 4, none⟩ = some (.int .u64 lk))
      (first | exact HS.out _ (by assumption) | exact HS.out _ (Kept.weaken (m := [p, r]) (by assumption) (by simp)) | exact HS.out _ (K3.weaken (m := [p, r]) (by simp)).drew | exact HS.out _ (K3.weaken (m := [p, r]) (by simp)))
      (first
        | (go_at_call 92; refine (TK.out _ (by first | assumption | exact K3.drew)).mono ?_; rintro e w7 ⟨rfl, M7, K7⟩))
    have Z : KB w7 b v fr ix lf lk gt nx := K7.blk HB.out (by simp; omega)
    have T7 : Tab w7 := HT.out.keptL K7 (by have := HM.out.pos; simp; omega)
    have q2 := cell_of_blk Z (i := 2) rfl
    have HZ : Hid (KB w7 b v fr ix lf lk gt nx) := Z
    have HT7 : Hid (Tab w7) := T7
    have HM7 : Hid (Mm w7 m p r c C (cnt + 1) A) := M7
    clear Z T7 M7
    go_wp2_with fail
    refine (PA.out _ HT7.out).mono ?_
    rintro e w8 ⟨rfl, K8⟩
    have Z : KB w8 b v fr ix lf lk gt nx := K8.blk HZ.out (by simp)
    have M8 := HM7.out.new K8
    have KX : Kept [b, p, r] w w8 := (K7.weaken (m := [b, p, r]) (by simp)).then K8 (by simp)
    clear q2
    have q5 := cell_of_blk Z (i := 5) rfl
    have q2 := cell_of_blk Z (i := 2) rfl
    have hf := free_of_blk Z
    have HZ8 : Hid (KB w8 b v fr ix lf lk gt nx) := Z
    have HM8 : Hid (Mm w8 m p r c C (cnt + 1) A) := M8
    clear Z M8 HZ HM7 K8 K7 HT7
    go_wp2_with fail
    refine (behind_any m p r c C (cnt + 1) A ix _ (HM8.out.kept (l := [b]) ((Kept.refl [b] w8).setCell (p := ⟨b, 5, none⟩) (Or.inl (by simp)) (.int .u64 P)) (by simp; omega) (by simp; omega) (by simp; omega)) h0 h1).mono ?_
    rintro e w9 ⟨rfl, K9⟩
    have Z9 : KB w9 b v fr ix lf lk P nx := K9.blk (by have z := blk_set HZ8.out 5 (.int .u64 P); simpa [KB] using z) (by simp)
    have KY : Kept [b, p, r] w w9 := (KX.setCell (p := ⟨b, 5, none⟩) (Or.inl (by simp)) (.int .u64 P)).then K9 (by simp)
    have M9 := (HM8.out.kept (l := [b]) ((Kept.refl [b] w8).setCell (p := ⟨b, 5, none⟩) (Or.inl (by simp)) (.int .u64 P)) (by simp; omega) (by simp; omega) (by simp; omega)).new K9
    clear q5 q2 hf K9
    have q6 := cell_of_blk Z9 (i := 6) rfl
    have q1 := cell_of_blk Z9 (i := 1) rfl
    have hf := free_of_blk Z9
    have HZ9 : Hid (KB w9 b v fr ix lf lk P nx) := Z9
    have HM9 : Hid (Mm w9 m p r c C (cnt + 1) A) := M9
    clear Z9 M9
    go_wp2
    go_end0
    refine ⟨rfl, ?_, HM9.out.kept (l := [b]) (((Kept.refl [b] w9).setCell (Or.inl (by simp)) _).setCell (Or.inl (by simp)) _) (by simp; omega) (by simp; omega) (by simp; omega), (KY.setCell (Or.inl (by simp)) _).setCell (Or.inl (by simp)) _⟩
    have z := blk_set (blk_set HZ9.out 6 (.int .i64 (bhI c ix))) 1 .nilFunc
    simpa [KS, KB, phV] using z
  · rw [if_neg hd]
    have hd' : A.d = false := by simpa using hd
    rw [hd'] at TK
    clear hd
    go_enter Tryd.func86, Tryd.ntmps86
    go_wp2_with fail
    refine (GN.out _).mono ?_
    rintro e w1 ⟨rfl, K1⟩
    go_wp2_with fail
    refine (ME.out _).mono ?_
    rintro e w2 ⟨rfl, K2⟩
    have K3 : Kept [] w w2 := K1.trans K2
    clear q4 K1 K2
    go_wp2_with fail
    go_region_held3 (fun W' => W'.cell? ⟨b, 2, none⟩ = some (.int .i64 ix) ∧ W'.cell? ⟨b, 4, none⟩ = some (.int .u64 lk))
      (first | exact HS.out _ (by assumption) | exact HS.out _ (Kept.weaken (m := [p, r]) (by assumption) (by simp)) | exact HS.out _ (K3.weaken (m := [p, r]) (by simp)).drew | exact HS.out _ (K3.weaken (m := [p, r]) (by simp)))
      (first
        | (go_at_call 92; refine (TK.out _ (by first | assumption | exact K3.drew)).mono ?_; rintro e w7 ⟨rfl, M7, K7⟩))
    have Z : KB w7 b v fr ix lf lk gt nx := K7.blk HB.out (by simp; omega)
    have HZ : Hid (KB w7 b v fr ix lf lk gt nx) := Z
    have HM7 : Hid (Mm w7 m p r c C (cnt + 1) A) := M7
    clear Z M7
    go_wp2_with fail
    refine (pass_any b m p r v c C (cnt + 1) A ph fr ix lf lk gt nx _ HZ.out HM7.out h0 h1 l0 l1).mono ?_
    rintro e w8 ⟨rfl, S8, K8⟩
    have HM8 : Hid _ := HM7.out.kept K8 (by simp; omega) (by simp; omega) (by simp; omega)
    clear HM7
    go_wp2
    exact bodyPost_ret (v := .tuple #[]) (by simp [results, Tryd.results86, go_sem]) rfl ⟨rfl, S8, HM8.out, (K7.weaken (m := [b, p, r]) (by simp)).then K8 (by simp)⟩
end K
end Go.Proofs.YtmmpafhfanldbaaDoor
