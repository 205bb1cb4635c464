/-
  The document's claim: any step.
-/
import Derived.Test.YtmmpafhfanldbaaDoorKRTake
namespace Go.Proofs.YtmmpafhfanldbaaDoor
open Go.RowKit (Grown Hid Below)
open Go.Deep
namespace K
set_option maxRecDepth 100000
def rsT (c : Cfg) (cs : List Int) (s : RC) : Acc := acV cs 3 (clV' c (atV s c.c) 0) 0 s.w (S.meV 1 (S.gnV s.w))
def rsK (c : Cfg) (cs : List Int) (s : RC) : RC := if s.d = true then s else if s.t = true then (if (rsT c cs s).d = true then ⟨s.f, s.l, s.t, s.w, packV (atV s c.c) (S.gnV s.w) false, true⟩ else rgo s c.c)
  else (if S.stV (wdK c cs (atV s c.c)) = 0 then ⟨s.f, s.l, true, wdK c cs (atV s c.c), s.g, s.d⟩ else rgo s c.c)
def rsC (c : Cfg) (cs : List Int) (s : RC) : List Int := if s.d = true then cs else if s.t = true then clV cs 3 (clV' c (atV s c.c) 0) s.w (S.meV 1 (S.gnV s.w)) else cs
def rsN (cnt : Int) (s : RC) : Int := if s.d = true then cnt else cnt + 1
def rsA (c : Cfg) (cs : List Int) (a : Acc) (s : RC) : Acc := if s.d = true then a else if s.t = true then rsT c cs s else acV cs 1 (clV' c (atV s c.c) 0) 0 0 0
/-- The document's words, as a value whose row lies where it did, or anew. -/
def Wv (w : World) (g : Nat) (c : Cfg) (n : Nat) (cs : List Int) (cnt : Int) (a : Acc) (A : Array Value) (V : World) : Prop := ∃ g' c', A = rmA c (some ⟨g', 0, none⟩) n c' cnt a ∧ (g' = g ∨ w.heap.size ≤ g') ∧ RowR V g' cs c'
theorem rowR_far {w w' V W : World} {l : List Nat} {g g' c' : Nat} {cs : List Int} (h : RowR w' g' cs c') (k : Kept l w' V) (hl : ∀ x ∈ l, w.heap.size ≤ x ∧ x < W.heap.size) (hg : g < w.heap.size) (e : g' = g ∨ W.heap.size ≤ g') : RowR V g' cs c' :=
  h.kept k (fun hx => by have := hl _ hx; rcases e with rfl | e <;> omega)
theorem at_bd (s : RC) {m : Int} (m0 : 1 ≤ m) : 1 ≤ atV s m ∧ atV s m ≤ m := by
  unfold atV
  have h1 := Int.emod_nonneg ((if s.f < 1 ∨ m < s.f then 1 else s.f) - 1 + s.l) (by omega : m ≠ 0)
  have h2 := Int.emod_lt_of_pos ((if s.f < 1 ∨ m < s.f then 1 else s.f) - 1 + s.l) (by omega : 0 < m)
  omega
theorem rstep_any (s : RC) (c : Cfg) (g : Nat) (cs : List Int) (cap : Nat) (cnt : Int) (a : Acc) (w : World) (hR : RowR w g cs cap) (hl : cs.length ≤ 17592186044415) (c0 : 0 ≤ cnt) (c1 : cnt < 4611686018427387904) (m0 : 1 ≤ c.c) (m1 : c.c ≤ 64)
    (l0 : 0 ≤ s.l) (l1 : s.l ≤ 64) (hw : Wds cs) (w0 : 0 ≤ s.w) (w1 : s.w < 18446744073709551616) :
    Calls Tryd.prog 14 #[.agg (rcA s), rmV c (some ⟨g, 0, none⟩) cs.length cap cnt a] w fun e w' =>
      ∃ g' c', e = .returned (.tuple #[.agg (rcA (rsK c cs s)), rmV c (some ⟨g', 0, none⟩) cs.length c' (rsN cnt s) (rsA c cs a s)]) ∧ (g' = g ∨ w.heap.size ≤ g') ∧ RowR w' g' (rsC c cs s) c' ∧ Kept [] w w' := by
  have hg := hR.lt
  show Calls Tryd.prog 14 #[.agg (rcA s), .agg (rmA c (some ⟨g, 0, none⟩) cs.length cap cnt a)] w _
  have ab := at_bd s m0
  have gb := S.gn_bd s.w w0
  have hAt := fun W => at_any s c.c W m0 m1 l0 l1
  by_cases hd : s.d = true
  · have e1 : rsK c cs s = s := if_pos hd
    have e2 : rsC c cs s = cs := if_pos hd
    have e3 : rsN cnt s = cnt := if_pos hd
    have e4 : rsA c cs a s = a := if_pos hd
    rw [e1, e2, e3, e4]
    refine (rstep_done s (rmA c (some ⟨g, 0, none⟩) cs.length cap cnt a) rfl (rm_one _ _ _ _ _ _) w hd).mono ?_
    rintro e w' ⟨rfl, k⟩
    exact ⟨g, cap, rfl, Or.inl rfl, hR.kept k (by simp), k⟩
  · have hd' : s.d = false := by simpa using hd
    by_cases ht : s.t = true
    · have e2 : rsC c cs s = clV cs 3 (clV' c (atV s c.c) 0) s.w (S.meV 1 (S.gnV s.w)) := by unfold rsC; rw [if_neg hd, if_pos ht]
      have e3 : rsN cnt s = cnt + 1 := if_neg hd
      have e4 : rsA c cs a s = rsT c cs s := by unfold rsA; rw [if_neg hd, if_pos ht]
      rw [e2, e3, e4]
      have hT : TakeP w (S.meV 1 (S.gnV s.w)) (rsT c cs s).d (Wv w g c cs.length (clV cs 3 (clV' c (atV s c.c) 0) s.w (S.meV 1 (S.gnV s.w))) (cnt + 1) (rsT c cs s)) (atV s c.c) s.w (rmA c (some ⟨g, 0, none⟩) cs.length cap cnt a) := by
        intro W k
        refine (qtake_any c g cs cap cnt a (atV s c.c) s.w (S.meV 1 (S.gnV s.w)) W (hR.kept k (by simp)) hl c0 c1).mono ?_
        rintro e w' ⟨g', c', rfl, h2, h3, h4⟩
        exact ⟨_, rfl, ⟨rfl, rm_one _ _ _ _ _ _, fun V l kl hx => ⟨g', c', rfl, h2.imp id (fun h => Nat.le_trans k.size h), rowR_far h3 kl hx hg h2⟩⟩, h4⟩
      refine (rstep_take s _ c (S.meV 1 (S.gnV s.w)) (atV s c.c) (S.gnV s.w) (packV (atV s c.c) (S.gnV s.w) false) (rsT c cs s).d _ w rfl rfl hd' ht hT hAt (fun W => S.rgen_any s.w W w0 w1) (fun W => taken_any _ W gb) (fun W => rof1_any _ _ W gb (by omega)) l0 l1 (rsK c cs s) (by unfold rsK; rw [if_neg hd, if_pos ht])).mono ?_
      rintro e w' ⟨A', rfl, ⟨g', c', rfl, h2, h3⟩, k⟩
      exact ⟨g', c', rfl, h2, h3, k⟩
    · have ht' : s.t = false := by simpa using ht
      have e2 : rsC c cs s = clV cs 1 (clV' c (atV s c.c) 0) 0 0 := by rw [clV_load]; unfold rsC; rw [if_neg hd, if_neg ht]
      have e3 : rsN cnt s = cnt + 1 := if_neg hd
      have e4 : rsA c cs a s = acV cs 1 (clV' c (atV s c.c) 0) 0 0 0 := by unfold rsA; rw [if_neg hd, if_neg ht]
      rw [e2, e3, e4]
      have xb := wdK_bd hw c (atV s c.c)
      have hT : LookP w (wdK c cs (atV s c.c)) (Wv w g c cs.length (clV cs 1 (clV' c (atV s c.c) 0) 0 0) (cnt + 1) (acV cs 1 (clV' c (atV s c.c) 0) 0 0 0)) (atV s c.c) (rmA c (some ⟨g, 0, none⟩) cs.length cap cnt a) := by
        intro W k
        refine (qmeta_any c g cs cap cnt a (atV s c.c) W (hR.kept k (by simp)) hl c0 c1).mono ?_
        rintro e w' ⟨g', c', rfl, h2, h3, h4⟩
        exact ⟨_, rfl, ⟨rfl, rm_one _ _ _ _ _ _, fun V l kl hx => ⟨g', c', rfl, h2.imp id (fun h => Nat.le_trans k.size h), rowR_far h3 kl hx hg h2⟩⟩, h4⟩
      refine (rstep_look s _ c (wdK c cs (atV s c.c)) (atV s c.c) (S.stV (wdK c cs (atV s c.c))) _ w rfl rfl hd' ht' hT hAt (fun W => S.rstate_any _ W xb.1 xb.2) l0 l1 (rsK c cs s) (by unfold rsK; rw [if_neg hd, if_neg ht])).mono ?_
      rintro e w' ⟨A', rfl, ⟨g', c', rfl, h2, h3⟩, k⟩
      exact ⟨g', c', rfl, h2, h3, k⟩
/-- The slot behind the one that was got. -/
def nxV (s : RC) (m : Int) : Int := if s.g = 0 then s.f else ixV s.g % m + 1
set_option maxHeartbeats 2000000 in
theorem rnext_any (s : RC) (m : Int) (w : World) (m0 : 1 ≤ m) (m1 : m ≤ 64) (g0 : 0 ≤ s.g) (g1 : s.g < 18446744073709551616) :
    Calls Tryd.prog 19 #[.agg (rcA s), .int .i64 m] w fun e w' => e = .returned (.int .i64 (nxV s m)) ∧ Kept [] w w' := by
  obtain ⟨f, l, t, wd, g, d⟩ := s
  have Z := RW.new 42 w (rcA ⟨f, l, t, wd, g, d⟩)
  have K0 : Kept [] w (w.alloc (.cells (rcA ⟨f, l, t, wd, g, d⟩) 42)) := (Kept.refl _ _).alloc _
  have q0 := cell_of_blk Z (i := 0) (v := .int .i64 f) rfl
  have q4 := cell_of_blk Z (i := 4) (v := .int .u64 g) rfl
  have wl : w.heap.size < w.heap.size + 1 := by omega
  clear Z
  have g0' : 0 ≤ g := g0
  have g1' : g < 18446744073709551616 := g1
  clear g0 g1
  have md : ¬ m = 0 := by omega
  by_cases h : g = 0
  · have e : nxV ⟨f, l, t, wd, g, d⟩ m = f := if_pos h
    rw [e]; clear e
    subst h
    go_enter Tryd.func19, Tryd.ntmps19
    go_wp2
    go_ret
    exact ⟨rfl, K0⟩
  · have e : nxV ⟨f, l, t, wd, g, d⟩ m = ixV g % m + 1 := if_neg h
    rw [e]; clear e
    have hgb : (g == 0) = false := by simp [h]
    have IX := hidOf (fun W => rindex_any g W g0' g1')
    have i0 : 0 ≤ ixV g := by unfold ixV; omega
    have i1 : ixV g < 4294967296 := by unfold ixV; omega
    generalize ixV g = I at *
    go_enter Tryd.func19, Tryd.ntmps19
    go_wp2_with fail
    refine (IX.out _).mono ?_
    rintro e w1 ⟨rfl, K1⟩
    go_wp2
    go_ret
    exact ⟨ret_i64 (wrap_id (by have := Int.emod_nonneg I md; omega) (by have := Int.emod_lt_of_pos I (by omega : 0 < m); omega)), K0.trans K1⟩
end K
end Go.Proofs.YtmmpafhfanldbaaDoor
