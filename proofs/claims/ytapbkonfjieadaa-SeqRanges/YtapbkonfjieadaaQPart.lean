/-
  The contract of parting a map at a key.
-/
import Derived.Test.YtapbkonfjieadaaQBin
namespace Go.Proofs.Ytapbkonfjieadaa.Q
set_option maxRecDepth 100000
open Go.ChangeShapes Go.WideShapes Go.ChangeAt Go.RowKit
open Go.Deep
/-- The pair of a key, if there is one. -/
def own (ps : List Pr) (k : Int) : List Pr := (fd ps k).toList
/-- What a place that parts a map tells of it. -/
theorem BinP.no {ps : List Pr} {n : Nat} {k : Int} {i : Nat} (h : Str ps) (hn : n = ps.length) (b : BinP ps n k i) (hh : hsB ps n k i = false) : ps.take i = blw ps k ∧ ps.drop i = abv ps k ∧ own ps k = [] ∧ i = (blw ps k).length := by
  subst hn
  obtain ⟨h1, h2, h3⟩ := b
  obtain ⟨p1, p2⟩ := part_at h h1 h2 h3
  have hne : ∀ x ∈ ps, ¬ x.k = k := fun x hx e => by
    have m1 : x ∈ nbl ps k := mem_nbl.2 ⟨hx, by omega⟩
    have hi : i < ps.length := by
      rw [← p2] at m1
      have := List.length_pos_of_mem m1
      simp at this; omega
    have hg : (ps.getD i default).k ≠ k := by
      intro q; unfold hsB at hh; rw [decide_eq_true hi, decide_eq_true q] at hh; cases hh
    rcases h3 with q | q
    · omega
    · rw [← p2] at m1
      obtain ⟨j, hj, e2⟩ := List.mem_iff_getElem.1 m1
      simp at hj
      have e3 : ps.getD (i + j) default = x := by rw [← e2]; simp [(by omega : i + j < ps.length)]
      by_cases j0 : j = 0
      · subst j0; rw [Nat.add_zero] at e3; rw [e3] at hg; exact hg e
      · have := List.pairwise_iff_getElem.1 h i (i + j) hi (by omega) (by omega)
        have e4 : ps[i + j]'(by omega) = x := by rw [← e3]; simp [(by omega : i + j < ps.length)]
        have e5 : ps[i] = ps.getD i default := by simp [hi]
        rw [e4, e5] at this
        omega
  refine ⟨p1, by rw [p2, nbl_abv ps hne], ?_, by rw [← p1]; simp; omega⟩
  unfold own
  have : fd ps k = none := by unfold fd; rw [List.find?_eq_none]; intro x hx; simpa using hne x hx
  rw [this]; rfl
theorem BinP.yes {ps : List Pr} {n : Nat} {k : Int} {i : Nat} (h : Str ps) (hn : n = ps.length) (b : BinP ps n k i) (hh : hsB ps n k i = true) : ps.take i = blw ps k ∧ ps.drop (i + 1) = abv ps k ∧ own ps k = [ps.getD i default] ∧ i < n ∧ i = (blw ps k).length := by
  subst hn
  obtain ⟨h1, h2, h3⟩ := b
  obtain ⟨p1, p2⟩ := part_at h h1 h2 h3
  unfold hsB at hh
  simp only [Bool.and_eq_true, decide_eq_true_eq] at hh
  obtain ⟨hi, hk⟩ := hh
  have hm : ps.getD i default ∈ ps := by have : ps.getD i default = ps[i] := by simp [hi]
                                         rw [this]; exact List.getElem_mem hi
  have e := h.at_key hm
  rw [hk, ← p2] at e
  refine ⟨p1, ?_, ?_, hi, by rw [← p1]; simp; omega⟩
  · have : ps.drop (i + 1) = (ps.drop i).drop 1 := by rw [List.drop_drop]
    rw [this, e]; rfl
  · unfold own
    have := h.fd_mem hm
    rw [hk] at this; rw [this]; rfl
theorem SlP.dropA {w : World} {ad : Addr} {es : List Pr} (h : SlP w (some ad) es) (n : Nat) : SlP w (some (ad.add (n * 2))) (es.drop n) := by
  intro h0
  obtain ⟨b, off, he, _, _⟩ := h (by simp at h0; omega)
  cases he
  rw [add_plain]
  exact SlP.drop h n h0
theorem SlP.one {w : World} {ad : Addr} {es : List Pr} (h : SlP w (some ad) es) {n : Nat} (hn : n < es.length) : SlP w (some (ad.add (n * 2))) [es.getD n default] := by
  have := SlP.take (SlP.dropA h n) 1
  have e : (es.drop n).take 1 = [es.getD n default] := by
    rw [List.take_one, List.head?_drop]; simp [hn]
  rwa [e] at this
set_option maxHeartbeats 2000000 in
theorem parted_any (ao : Option Addr) (ps : List Pr) (n cap : Nat) (k : Int) (w : World) (h : MpV w ao n cap ps) (hst : Str ps) (hl : n ≤ 1000) :
    Calls Try.prog 39 #[.agg #[.slice ao n cap], .int .u64 k] w fun o w' => ∃ a1 n1 a2 n2 a3 n3 c3, o = .returned (.tuple #[.slice a1 n1 n1, .slice a2 n2 n2, .slice a3 n3 c3]) ∧ (n1 = (blw ps k).length ∧ SlP w' a1 (blw ps k)) ∧ (n2 = (own ps k).length ∧ SlP w' a2 (own ps k)) ∧ (n3 = (abv ps k).length ∧ SlP w' a3 (abv ps k) ∧ (a3 = none → c3 = 0)) ∧ Kept [] w w' := by
  have K0 : Kept [] w (w.alloc (.cells #[.slice ao n cap] 26)) := (Kept.refl _ _).alloc _
  have Z0 := blk_alloc_new w (.cells #[.slice ao n cap] 26)
  have hc := bin_any ao ps n cap k _ h.1 (h.2.1.new K0) hl
  have H : Hid _ := h
  have hnc := h.2.2.1
  clear h
  cases ao with
  | none =>
    have h9 : cap = 0 := H.out.2.2.2 rfl
    subst h9
    obtain rfl : n = 0 := by omega
    have e0 : ps = [] := List.eq_nil_of_length_eq_zero H.out.1.symm
    subst e0
    go_enter Try.func39, Try.ntmps39
    go_wp2_with fail
    refine hc.mono ?_
    rintro o w1 ⟨i, rfl, B, K1⟩
    have hin := B.1
    obtain rfl : i = 0 := by omega
    have q0 := cell_of_blk (K1.blk Z0 (by simp)) (i := 0) rfl
    have KT := K0.trans K1
    have hh : hsB [] 0 k 0 = false := rfl
    rw [hh]
    clear hc K0 Z0 K1 B H
    go_wp2_with fail
    go_quiet (fail)
    go_wp2
    refine bodyPost_ret (v := .tuple #[.slice none 0 0, .slice none 0 0, .slice none 0 0]) (by simp [results, Try.results39, go_sem]) rfl ?_
    exact ⟨none, 0, none, 0, none, 0, 0, rfl, ⟨rfl, SlP.nil _ _⟩, ⟨rfl, SlP.nil _ _⟩, ⟨rfl, SlP.nil _ _, fun _ => rfl⟩, KT.drewN _⟩
  | some ad =>
    go_enter Try.func39, Try.ntmps39
    go_wp2_with fail
    refine hc.mono ?_
    rintro o w1 ⟨i, rfl, B, K1⟩
    have hin := B.1
    have q0 := cell_of_blk (K1.blk Z0 (by simp)) (i := 0) rfl
    have KT := K0.trans K1
    have HB : Hid (BinP ps n k i) := B
    clear hc K0 Z0 K1 B
    have z1 : (i : Int) ≤ (n : Int) := by omega
    have z2 : (i : Int) ≤ (cap : Int) := by omega
    cases hh : hsB ps n k i with
    | false =>
      have P : Hid _ := HB.out.no hst H.out.1 hh
      by_cases hci : cap = i
      · go_wp2_with fail
        go_quiet (fail)
        go_wp2
        refine bodyPost_ret (v := .tuple #[.slice (some ad) i i, .slice (some ad) 0 0, .slice (some ad) (n - i) (cap - i)]) (by simp [results, Try.results39, go_sem, hci]) rfl ?_
        have S : SlP (w1.drewN nq) (some ad) ps := H.out.2.1.new (KT.drewN nq)
        have e : ps.drop i = [] := List.drop_eq_nil_of_le (by have := H.out.1; omega)
        refine ⟨some ad, i, some ad, 0, some ad, n - i, cap - i, rfl, ⟨P.out.2.2.2, ?_⟩, ⟨?_, ?_⟩, ⟨?_, ?_, by simp⟩, KT.drewN _⟩
        · rw [← P.out.1]; exact SlP.take S i
        · rw [P.out.2.2.1]; rfl
        · rw [P.out.2.2.1]; exact SlP.nil _ _
        · rw [← P.out.2.1, e]; simp; omega
        · rw [← P.out.2.1, e]; exact SlP.nil _ _
      · go_wp2_with fail
        go_quiet (fail)
        go_wp2
        refine bodyPost_ret (v := .tuple #[.slice (some ad) i i, .slice (some ad) 0 0, .slice (some (ad.add (i * 2))) (n - i) (cap - i)]) (by simp [results, Try.results39, go_sem]) rfl ?_
        have S : SlP (w1.drewN nq) (some ad) ps := H.out.2.1.new (KT.drewN nq)
        refine ⟨some ad, i, some ad, 0, _, n - i, cap - i, rfl, ⟨P.out.2.2.2, ?_⟩, ⟨?_, ?_⟩, ⟨?_, ?_, by simp⟩, KT.drewN _⟩
        · rw [← P.out.1]; exact SlP.take S i
        · rw [P.out.2.2.1]; rfl
        · rw [P.out.2.2.1]; exact SlP.nil _ _
        · rw [← P.out.2.1, List.length_drop, ← H.out.1]
        · rw [← P.out.2.1]; exact SlP.dropA S i
    | true =>
      have P : Hid _ := HB.out.yes hst H.out.1 hh
      have hi2 := P.out.2.2.2.1
      have z3 : (i : Int) + 1 ≤ (n : Int) := by omega
      have z4 : (i : Int) + 1 ≤ (cap : Int) := by omega
      have z5 : (0 : Int) ≤ (i : Int) + 1 := by omega
      have z6 : ((i : Int) + 1).toNat = i + 1 := by omega
      have z7 : i + 1 - i = 1 := by omega
      by_cases hci : cap = i + 1
      · go_wp2_with fail
        go_quiet (fail)
        go_wp2
        refine bodyPost_ret (v := .tuple #[.slice (some ad) i i, .slice (some (ad.add (i * 2))) 1 1, .slice (some ad) (n - (i + 1)) (cap - (i + 1))]) (by simp [results, Try.results39, go_sem, hci]) rfl ?_
        have S : SlP (w1.drewN nq) (some ad) ps := H.out.2.1.new (KT.drewN nq)
        have e : ps.drop (i + 1) = [] := List.drop_eq_nil_of_le (by have := H.out.1; omega)
        refine ⟨some ad, i, _, 1, some ad, n - (i + 1), cap - (i + 1), rfl, ⟨P.out.2.2.2.2, ?_⟩, ⟨?_, ?_⟩, ⟨?_, ?_, by simp⟩, KT.drewN _⟩
        · rw [← P.out.1]; exact SlP.take S i
        · rw [P.out.2.2.1]; rfl
        · rw [P.out.2.2.1]; exact SlP.one S (by have := H.out.1; omega)
        · rw [← P.out.2.1, e]; simp; omega
        · rw [← P.out.2.1, e]; exact SlP.nil _ _
      · go_wp2_with fail
        go_quiet (fail)
        go_wp2
        refine bodyPost_ret (v := .tuple #[.slice (some ad) i i, .slice (some (ad.add (i * 2))) 1 1, .slice (some (ad.add ((i + 1) * 2))) (n - (i + 1)) (cap - (i + 1))]) (by simp [results, Try.results39, go_sem]) rfl ?_
        have S : SlP (w1.drewN nq) (some ad) ps := H.out.2.1.new (KT.drewN nq)
        refine ⟨some ad, i, _, 1, _, n - (i + 1), cap - (i + 1), rfl, ⟨P.out.2.2.2.2, ?_⟩, ⟨?_, ?_⟩, ⟨?_, ?_, by simp⟩, KT.drewN _⟩
        · rw [← P.out.1]; exact SlP.take S i
        · rw [P.out.2.2.1]; rfl
        · rw [P.out.2.2.1]; exact SlP.one S (by have := H.out.1; omega)
        · rw [← P.out.2.1, List.length_drop, ← H.out.1]
        · rw [← P.out.2.1]; exact SlP.dropA S (i + 1)
end Go.Proofs.Ytapbkonfjieadaa.Q
