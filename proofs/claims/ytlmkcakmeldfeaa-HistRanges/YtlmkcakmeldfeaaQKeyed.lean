/-
  The contracts of finding a key's place, and of parting a map there.
  The contract of parting a map at a key.
  The contracts of what a key has, of a map with a pair, and without a key.
  The contracts of going through a map's pairs from a key on.
  The keys of a range: a loop over a function.
-/
import Derived.Test.YtlmkcakmeldfeaaQBase
import Derived.RangeFuncNested
import Derived.RangeFuncBound
import Derived.RangeFuncCalls
import Derived.RangeFuncLeaves
import Derived.RangeFuncBox
import Derived.Shelf.Abstract
import Derived.Shelf.RegionOpen
import Derived.OwnWalkIn
import Derived.TacticsInMore
import Derived.LoopNIn
import Derived.LoopIn
import Derived.Maps.AppendAt
namespace Go.Proofs.Ytlmkcakmeldfeaa.Q
set_option maxRecDepth 100000
open Go.RowKit
open Go.Deep
theorem against_at (p : Pr) (k c : Int) (hc : c = cpI p.k k) (w : World) : Calls Try.prog 66 #[.agg #[.int .u64 p.k, .int .u64 p.v], .int .u64 k] w fun o w' => o = .returned (.int .i64 c) ∧ Kept [] w w' := by
  subst hc; exact against_any p k w
/-- Is that place's key the one that is asked for? -/
def hsB (ps : List Pr) (n : Nat) (k : Int) (i : Nat) : Bool := decide (i < n) && decide ((ps.getD i default).k = k)
/-- A place that parts a map by a key. -/
def BinP (ps : List Pr) (n : Nat) (k : Int) (i : Nat) : Prop := i ≤ n ∧ (i = 0 ∨ (ps.getD (i - 1) default).k < k) ∧ (i = n ∨ k ≤ (ps.getD i default).k)
set_option maxHeartbeats 2000000 in
theorem bin_any (ao : Option Addr) (ps : List Pr) (n cap : Nat) (k : Int) (w : World) (hn : n = ps.length) (hs : SlP w ao ps) (hl : n ≤ 1000) :
    Calls Try.prog 65 #[.slice ao n cap, .int .u64 k, .func (.func 66) #[] #[]] w fun o w' => ∃ i : Nat, o = .returned (.tuple #[.int .i64 i, .bool (hsB ps n k i)]) ∧ BinP ps n k i ∧ Kept [] w w' := by
  have HN : Hid _ := hn
  clear hn
  go_enter Try.func65, Try.ntmps65
  go_wp2
  go_loopw [9, 10, 11] (fun vi vj _ wr => ∃ i j : Nat, i ≤ j ∧ j ≤ n ∧ vi = .int .i64 i ∧ vj = .int .i64 j ∧ Hid ((i = 0 ∨ (ps.getD (i - 1) default).k < k) ∧ (j = n ∨ k ≤ (ps.getD j default).k)) ∧ Kept [] w wr) (fun vi vj _ _ => (intOf vj).toNat - (intOf vi).toNat)
  case atStart => exact ⟨0, n, Nat.zero_le _, Nat.le_refl _, rfl, rfl, ⟨Or.inl rfl, Or.inl rfl⟩, Kept.refl _ _⟩
  case round =>
    obtain ⟨i, j, hij, hjn, rfl, rfl, E, K⟩ := hrel
    by_cases hlt : i < j
    · have hltz : (i : Int) < (j : Int) := by omega
      obtain ⟨c, hc⟩ : ∃ c, c = (i + j) / 2 := ⟨_, rfl⟩
      have ec : ((i : Int) + (j : Int)) / 2 = (c : Int) := by omega
      have hci : i ≤ c := by omega
      have hcj : c < j := by omega
      clear hc
      obtain ⟨b1, o1, rfl, _, c0, c1⟩ := SlP.row (hs.new K) (k := c) (by have := HN.out; omega)
      obtain ⟨x, hx⟩ : ∃ x, ps.getD c default = x := ⟨_, rfl⟩
      rw [hx] at c0 c1
      have HX : Hid _ := hx
      clear hx
      obtain ⟨r, hr⟩ : ∃ r, r = cpI x.k k := ⟨_, rfl⟩
      have hca := against_at x k r hr wr
      have z1 : (c : Int) < (n : Int) := by omega
      by_cases hlv : x.k < k
      · have hcd : r < 0 := by rw [hr]; exact cpI_lt.2 hlv
        clear hr
        go_wp2_with (go_at_call 66; refine hca.mono ?_; rintro o w1 ⟨rfl, K1⟩)
        go_roundw
        case rel => exact ⟨c + 1, j, by omega, hjn, by go_num, rfl, ⟨Or.inr (by rw [Nat.add_sub_cancel, HX.out]; exact hlv), E.out.2⟩, K.trans K1⟩
        case measure => simp [intOf]; omega
      · have hcd : ¬ r < 0 := by rw [hr]; exact fun q => hlv (cpI_lt.1 q)
        clear hr
        go_wp2_with (go_at_call 66; refine hca.mono ?_; rintro o w1 ⟨rfl, K1⟩)
        go_roundw
        case rel => exact ⟨i, c, by omega, by omega, rfl, by first | rfl | go_num, ⟨E.out.1, Or.inr (by rw [HX.out]; omega)⟩, K.trans K1⟩
        case measure => simp [intOf]; omega
    · obtain rfl : i = j := by omega
      have hltz : ¬ (i : Int) < (i : Int) := by omega
      by_cases hin : i < n
      · have hinz : (i : Int) < (n : Int) := by omega
        obtain ⟨b1, o1, rfl, _, c0, c1⟩ := SlP.row (hs.new K) (k := i) (by have := HN.out; omega)
        obtain ⟨x, hx⟩ : ∃ x, ps.getD i default = x := ⟨_, rfl⟩
        rw [hx] at c0 c1
        have HX : Hid _ := hx
        clear hx
        obtain ⟨r, hr⟩ : ∃ r, r = cpI x.k k := ⟨_, rfl⟩
        have hca := against_at x k r hr wr
        have hb : (r == 0) = decide (x.k = k) := by
          rw [hr]
          by_cases q : x.k = k
          · rw [decide_eq_true q]; simpa using cpI_eq.2 q
          · rw [decide_eq_false q]; simpa using fun h => q (cpI_eq.1 h)
        have HB : Hid _ := hb
        clear hr hb
        go_wp2_with (go_at_call 66; refine hca.mono ?_; rintro o w1 ⟨rfl, K1⟩)
        go_ret2
        exact ⟨i, by rw [show hsB ps n k i = (r == 0) by unfold hsB; rw [decide_eq_true hin, HX.out, Bool.true_and]; exact HB.out.symm]; rfl, ⟨hjn, E.out⟩, K.trans K1⟩
      · have hinz : ¬ (i : Int) < (n : Int) := by omega
        go_wp2
        go_ret2
        exact ⟨i, by rw [show hsB ps n k i = false by unfold hsB; rw [decide_eq_false hin, Bool.false_and]]; rfl, ⟨hjn, E.out⟩, K⟩
end Go.Proofs.Ytlmkcakmeldfeaa.Q
namespace Go.Proofs.Ytlmkcakmeldfeaa.Q
set_option maxRecDepth 100000
open Go.ChangeShapes Go.WideShapes Go.ChangeAt Go.RowKit
open Go.Deep
/-- The pair of a key, if there is one. -/
def own (ps : List Pr) (k : Int) : List Pr := (fd ps k).toList
/-- What a place that parts a map tells of it. -/
theorem BinP.no {ps : List Pr} {n : Nat} {k : Int} {i : Nat} (h : Str ps) (hn : n = ps.length) (b : BinP ps n k i) (hh : hsB ps n k i = false) : ps.take i = blw ps k ∧ ps.drop i = abv ps k ∧ own ps k = [] ∧ i = (blw ps k).length := by
  subst hn
  obtain ⟨h1, h2, h3⟩ := b
  obtain ⟨p1, p2⟩ := part_at h h1 h2 h3
  have hne : ∀ x ∈ ps, ¬ x.k = k := fun x hx e => by
    have m1 : x ∈ nbl ps k := mem_nbl.2 ⟨hx, by omega⟩
    have hi : i < ps.length := by
      rw [← p2] at m1
      have := List.length_pos_of_mem m1
      simp at this; omega
    have hg : (ps.getD i default).k ≠ k := by
      intro q; unfold hsB at hh; rw [decide_eq_true hi, decide_eq_true q] at hh; cases hh
    rcases h3 with q | q
    · omega
    · rw [← p2] at m1
      obtain ⟨j, hj, e2⟩ := List.mem_iff_getElem.1 m1
      simp at hj
      have e3 : ps.getD (i + j) default = x := by rw [← e2]; simp [(by omega : i + j < ps.length)]
      by_cases j0 : j = 0
      · subst j0; rw [Nat.add_zero] at e3; rw [e3] at hg; exact hg e
      · have := List.pairwise_iff_getElem.1 h i (i + j) hi (by omega) (by omega)
        have e4 : ps[i + j]'(by omega) = x := by rw [← e3]; simp [(by omega : i + j < ps.length)]
        have e5 : ps[i] = ps.getD i default := by simp [hi]
        rw [e4, e5] at this
        omega
  refine ⟨p1, by rw [p2, nbl_abv ps hne], ?_, by rw [← p1]; simp; omega⟩
  unfold own
  have : fd ps k = none := by unfold fd; rw [List.find?_eq_none]; intro x hx; simpa using hne x hx
  rw [this]; rfl
theorem BinP.yes {ps : List Pr} {n : Nat} {k : Int} {i : Nat} (h : Str ps) (hn : n = ps.length) (b : BinP ps n k i) (hh : hsB ps n k i = true) : ps.take i = blw ps k ∧ ps.drop (i + 1) = abv ps k ∧ own ps k = [ps.getD i default] ∧ i < n ∧ i = (blw ps k).length := by
  subst hn
  obtain ⟨h1, h2, h3⟩ := b
  obtain ⟨p1, p2⟩ := part_at h h1 h2 h3
  unfold hsB at hh
  simp only [Bool.and_eq_true, decide_eq_true_eq] at hh
  obtain ⟨hi, hk⟩ := hh
  have hm : ps.getD i default ∈ ps := by have : ps.getD i default = ps[i] := by simp [hi]
                                         rw [this]; exact List.getElem_mem hi
  have e := h.at_key hm
  rw [hk, ← p2] at e
  refine ⟨p1, ?_, ?_, hi, by rw [← p1]; simp; omega⟩
  · have : ps.drop (i + 1) = (ps.drop i).drop 1 := by rw [List.drop_drop]
    rw [this, e]; rfl
  · unfold own
    have := h.fd_mem hm
    rw [hk] at this; rw [this]; rfl
theorem SlP.dropA {w : World} {ad : Addr} {es : List Pr} (h : SlP w (some ad) es) (n : Nat) : SlP w (some (ad.add (n * 2))) (es.drop n) := by
  intro h0
  obtain ⟨b, off, he, _, _⟩ := h (by simp at h0; omega)
  cases he
  rw [add_plain]
  exact SlP.drop h n h0
theorem SlP.one {w : World} {ad : Addr} {es : List Pr} (h : SlP w (some ad) es) {n : Nat} (hn : n < es.length) : SlP w (some (ad.add (n * 2))) [es.getD n default] := by
  have := SlP.take (SlP.dropA h n) 1
  have e : (es.drop n).take 1 = [es.getD n default] := by
    rw [List.take_one, List.head?_drop]; simp [hn]
  rwa [e] at this
set_option maxHeartbeats 2000000 in
theorem parted_any (ao : Option Addr) (ps : List Pr) (n cap : Nat) (k : Int) (w : World) (h : MpV w ao n cap ps) (hst : Str ps) (hl : n ≤ 1000) :
    Calls Try.prog 58 #[.agg #[.slice ao n cap], .int .u64 k] w fun o w' => ∃ a1 n1 a2 n2 a3 n3 c3, o = .returned (.tuple #[.slice a1 n1 n1, .slice a2 n2 n2, .slice a3 n3 c3]) ∧ (n1 = (blw ps k).length ∧ SlP w' a1 (blw ps k)) ∧ (n2 = (own ps k).length ∧ SlP w' a2 (own ps k)) ∧ (n3 = (abv ps k).length ∧ SlP w' a3 (abv ps k) ∧ (a3 = none → c3 = 0)) ∧ Kept [] w w' := by
  have K0 : Kept [] w (w.alloc (.cells #[.slice ao n cap] 35)) := (Kept.refl _ _).alloc _
  have Z0 := blk_alloc_new w (.cells #[.slice ao n cap] 35)
  have hc := bin_any ao ps n cap k _ h.1 (h.2.1.new K0) hl
  have H : Hid _ := h
  have hnc := h.2.2.1
  clear h
  cases ao with
  | none =>
    have h9 : cap = 0 := H.out.2.2.2 rfl
    subst h9
    obtain rfl : n = 0 := by omega
    have e0 : ps = [] := List.eq_nil_of_length_eq_zero H.out.1.symm
    subst e0
    go_enter Try.func58, Try.ntmps58
    go_wp2_with fail
    refine hc.mono ?_
    rintro o w1 ⟨i, rfl, B, K1⟩
    have hin := B.1
    obtain rfl : i = 0 := by omega
    have q0 := cell_of_blk (K1.blk Z0 (by simp)) (i := 0) rfl
    have KT := K0.trans K1
    have hh : hsB [] 0 k 0 = false := rfl
    rw [hh]
    clear hc K0 Z0 K1 B H
    go_wp2_with fail
    go_quiet (fail)
    go_wp2
    refine bodyPost_ret (v := .tuple #[.slice none 0 0, .slice none 0 0, .slice none 0 0]) (by simp [results, Try.results58, go_sem]) rfl ?_
    exact ⟨none, 0, none, 0, none, 0, 0, rfl, ⟨rfl, SlP.nil _ _⟩, ⟨rfl, SlP.nil _ _⟩, ⟨rfl, SlP.nil _ _, fun _ => rfl⟩, KT.drewN _⟩
  | some ad =>
    go_enter Try.func58, Try.ntmps58
    go_wp2_with fail
    refine hc.mono ?_
    rintro o w1 ⟨i, rfl, B, K1⟩
    have hin := B.1
    have q0 := cell_of_blk (K1.blk Z0 (by simp)) (i := 0) rfl
    have KT := K0.trans K1
    have HB : Hid (BinP ps n k i) := B
    clear hc K0 Z0 K1 B
    have z1 : (i : Int) ≤ (n : Int) := by omega
    have z2 : (i : Int) ≤ (cap : Int) := by omega
    cases hh : hsB ps n k i with
    | false =>
      have P : Hid _ := HB.out.no hst H.out.1 hh
      by_cases hci : cap = i
      · go_wp2_with fail
        go_quiet (fail)
        go_wp2
        refine bodyPost_ret (v := .tuple #[.slice (some ad) i i, .slice (some ad) 0 0, .slice (some ad) (n - i) (cap - i)]) (by simp [results, Try.results58, go_sem, hci]) rfl ?_
        have S : SlP (w1.drewN nq) (some ad) ps := H.out.2.1.new (KT.drewN nq)
        have e : ps.drop i = [] := List.drop_eq_nil_of_le (by have := H.out.1; omega)
        refine ⟨some ad, i, some ad, 0, some ad, n - i, cap - i, rfl, ⟨P.out.2.2.2, ?_⟩, ⟨?_, ?_⟩, ⟨?_, ?_, by simp⟩, KT.drewN _⟩
        · rw [← P.out.1]; exact SlP.take S i
        · rw [P.out.2.2.1]; rfl
        · rw [P.out.2.2.1]; exact SlP.nil _ _
        · rw [← P.out.2.1, e]; simp; omega
        · rw [← P.out.2.1, e]; exact SlP.nil _ _
      · go_wp2_with fail
        go_quiet (fail)
        go_wp2
        refine bodyPost_ret (v := .tuple #[.slice (some ad) i i, .slice (some ad) 0 0, .slice (some (ad.add (i * 2))) (n - i) (cap - i)]) (by simp [results, Try.results58, go_sem]) rfl ?_
        have S : SlP (w1.drewN nq) (some ad) ps := H.out.2.1.new (KT.drewN nq)
        refine ⟨some ad, i, some ad, 0, _, n - i, cap - i, rfl, ⟨P.out.2.2.2, ?_⟩, ⟨?_, ?_⟩, ⟨?_, ?_, by simp⟩, KT.drewN _⟩
        · rw [← P.out.1]; exact SlP.take S i
        · rw [P.out.2.2.1]; rfl
        · rw [P.out.2.2.1]; exact SlP.nil _ _
        · rw [← P.out.2.1, List.length_drop, ← H.out.1]
        · rw [← P.out.2.1]; exact SlP.dropA S i
    | true =>
      have P : Hid _ := HB.out.yes hst H.out.1 hh
      have hi2 := P.out.2.2.2.1
      have z3 : (i : Int) + 1 ≤ (n : Int) := by omega
      have z4 : (i : Int) + 1 ≤ (cap : Int) := by omega
      have z5 : (0 : Int) ≤ (i : Int) + 1 := by omega
      have z6 : ((i : Int) + 1).toNat = i + 1 := by omega
      have z7 : i + 1 - i = 1 := by omega
      by_cases hci : cap = i + 1
      · go_wp2_with fail
        go_quiet (fail)
        go_wp2
        refine bodyPost_ret (v := .tuple #[.slice (some ad) i i, .slice (some (ad.add (i * 2))) 1 1, .slice (some ad) (n - (i + 1)) (cap - (i + 1))]) (by simp [results, Try.results58, go_sem, hci]) rfl ?_
        have S : SlP (w1.drewN nq) (some ad) ps := H.out.2.1.new (KT.drewN nq)
        have e : ps.drop (i + 1) = [] := List.drop_eq_nil_of_le (by have := H.out.1; omega)
        refine ⟨some ad, i, _, 1, some ad, n - (i + 1), cap - (i + 1), rfl, ⟨P.out.2.2.2.2, ?_⟩, ⟨?_, ?_⟩, ⟨?_, ?_, by simp⟩, KT.drewN _⟩
        · rw [← P.out.1]; exact SlP.take S i
        · rw [P.out.2.2.1]; rfl
        · rw [P.out.2.2.1]; exact SlP.one S (by have := H.out.1; omega)
        · rw [← P.out.2.1, e]; simp; omega
        · rw [← P.out.2.1, e]; exact SlP.nil _ _
      · go_wp2_with fail
        go_quiet (fail)
        go_wp2
        refine bodyPost_ret (v := .tuple #[.slice (some ad) i i, .slice (some (ad.add (i * 2))) 1 1, .slice (some (ad.add ((i + 1) * 2))) (n - (i + 1)) (cap - (i + 1))]) (by simp [results, Try.results58, go_sem]) rfl ?_
        have S : SlP (w1.drewN nq) (some ad) ps := H.out.2.1.new (KT.drewN nq)
        refine ⟨some ad, i, _, 1, _, n - (i + 1), cap - (i + 1), rfl, ⟨P.out.2.2.2.2, ?_⟩, ⟨?_, ?_⟩, ⟨?_, ?_, by simp⟩, KT.drewN _⟩
        · rw [← P.out.1]; exact SlP.take S i
        · rw [P.out.2.2.1]; rfl
        · rw [P.out.2.2.1]; exact SlP.one S (by have := H.out.1; omega)
        · rw [← P.out.2.1, List.length_drop, ← H.out.1]
        · rw [← P.out.2.1]; exact SlP.dropA S (i + 1)
end Go.Proofs.Ytlmkcakmeldfeaa.Q
namespace Go.Proofs.Ytlmkcakmeldfeaa.Q
set_option maxRecDepth 100000
open Go.RowKit
open Go.Deep
/-- A store into a map's own block leaves pairs as they are. -/
theorem SlP.setMap {w : World} {ao : Option Addr} {es : List Pr} (h : SlP w ao es) {B : Nat} {a : Option Addr} {n c : Nat} {T : TypeId} (Z : w.heap[B]? = some (.cells #[.slice a n c] T (0, 0))) (u : Value) : SlP (w.setCell ⟨B, 0, none⟩ u) ao es := by
  intro h0
  obtain ⟨b, off, rfl, hb, hc⟩ := h h0
  have hne : b ≠ B := by
    rintro rfl
    have := hc 0 h0 0 _ rfl
    simp [World.cell?, Z] at this
    cases e : off with
    | zero => rw [e] at this; simp at this
    | succ o => rw [e] at this; simp at this
  refine ⟨b, off, rfl, by rw [nblk_setCell]; exact hb, fun i hi j v hv => ?_⟩
  rw [World.cell?_of_block (w := w) (a := ⟨b, off + i * 2 + j, none⟩) (blk_setCell_other _ _ _ _ (fun e => hne e))]
  exact hc i hi j v hv
/-- Has a key a value, and which? -/
def gtH (ps : List Pr) (k : Int) : Bool := (fd ps k).isSome
def gtV (ps : List Pr) (k : Int) : Int := match fd ps k with | some p => p.v | none => 0
set_option maxHeartbeats 1000000 in
theorem get_any (ao : Option Addr) (ps : List Pr) (n cap : Nat) (k : Int) (w : World) (h : MpV w ao n cap ps) (hst : Str ps) (hl : n ≤ 1000) :
    Calls Try.prog 41 #[.agg #[.slice ao n cap], .int .u64 k] w fun o w' => o = .returned (.agg #[.bool false, .bool (gtH ps k), .int .u64 (gtV ps k), .slice none 0 0]) ∧ Kept [] w w' := by
  have K0 : Kept [] w ((w.alloc (.cells #[.slice ao n cap] 35)).alloc (.cells #[.bool false, .bool false, .int .u64 0, .slice none 0 0] 46)) := ((Kept.refl _ _).alloc _).alloc _
  have Z0 := blk_alloc_new (w.alloc (.cells #[.slice ao n cap] 35)) (.cells #[.bool false, .bool false, .int .u64 0, .slice none 0 0] 46)
  rw [nblk_alloc] at Z0
  have hc := parted_any ao ps n cap k _ (h.new K0) hst hl
  clear h
  go_enter Try.func41, Try.ntmps41
  go_wp2_with fail
  refine hc.mono ?_
  rintro o w1 ⟨a1, n1, a2, n2, a3, n3, c3, rfl, ⟨e1, S1⟩, ⟨e2, S2⟩, ⟨e3, S3, _⟩, K1⟩
  have Z1 := K1.blk Z0 (by simp)
  have KT := K0.trans K1
  have q0 := cell_of_blk Z1 (i := 0) rfl
  have q1 := cell_of_blk Z1 (i := 1) rfl
  have q2 := cell_of_blk Z1 (i := 2) rfl
  have q3 := cell_of_blk Z1 (i := 3) rfl
  have fr := free_of_blk Z1
  clear hc K0 K1 Z0 e1 S1 e3 S3
  unfold own at e2 S2
  cases hf : fd ps k with
  | none =>
    rw [hf] at e2 S2
    simp at e2
    subst e2
    clear S2
    go_wp2
    have Z5 := blk_set (blk_set (blk_set (blk_set Z1 0 (.bool false)) 1 (.bool false)) 2 (.int .u64 0)) 3 (.slice none 0 0)
    have y0 := cell_of_blk Z5 (i := 0) rfl
    have y1 := cell_of_blk Z5 (i := 1) rfl
    have y2 := cell_of_blk Z5 (i := 2) rfl
    have y3 := cell_of_blk Z5 (i := 3) rfl
    exact bodyPost_ret (v := .agg #[.bool false, .bool false, .int .u64 0, .slice none 0 0]) (by simp [results, Try.results41, go_sem, y0, y1, y2, y3]) rfl ⟨by unfold gtH gtV; rw [hf]; rfl, (((KT.setCell (Or.inr (Nat.le_succ _)) _).setCell (Or.inr (Nat.le_succ _)) _).setCell (Or.inr (Nat.le_succ _)) _).setCell (Or.inr (Nat.le_succ _)) _⟩
  | some p =>
    rw [hf] at e2 S2
    simp at e2
    subst e2
    obtain ⟨b1, o1, rfl, _, c0, c1⟩ := SlP.row S2 (k := 0) (by simp)
    simp at c0 c1
    clear S2
    go_wp2
    have Z5 := blk_set (blk_set (blk_set (blk_set Z1 0 (.bool false)) 1 (.bool true)) 2 (.int .u64 p.v)) 3 (.slice none 0 0)
    have y0 := cell_of_blk Z5 (i := 0) rfl
    have y1 := cell_of_blk Z5 (i := 1) rfl
    have y2 := cell_of_blk Z5 (i := 2) rfl
    have y3 := cell_of_blk Z5 (i := 3) rfl
    exact bodyPost_ret (v := .agg #[.bool false, .bool true, .int .u64 p.v, .slice none 0 0]) (by simp [results, Try.results41, go_sem, y0, y1, y2, y3]) rfl ⟨by unfold gtH gtV; rw [hf]; rfl, (((KT.setCell (Or.inr (Nat.le_succ _)) _).setCell (Or.inr (Nat.le_succ _)) _).setCell (Or.inr (Nat.le_succ _)) _).setCell (Or.inr (Nat.le_succ _)) _⟩
theorem parts_len (ps : List Pr) (k : Int) : (blw ps k).length ≤ ps.length ∧ (abv ps k).length ≤ ps.length := ⟨List.length_filter_le _ _, List.length_filter_le _ _⟩
set_option maxHeartbeats 1000000 in
theorem without_any (ao : Option Addr) (ps : List Pr) (n cap : Nat) (k : Int) (w : World) (h : MpV w ao n cap ps) (hst : Str ps) (hl : n ≤ 1000) :
    Calls Try.prog 43 #[.agg #[.slice ao n cap], .int .u64 k] w fun o w' => ∃ bo m cb, o = .returned (.agg #[.slice bo m cb]) ∧ MpV w' bo m cb (wo ps k) ∧ Kept [] w w' := by
  have K0 : Kept [] w ((w.alloc (.cells #[.slice ao n cap] 35)).alloc (.cells #[.slice none 0 0] 35)) := ((Kept.refl _ _).alloc _).alloc _
  have Z0 := blk_alloc_new (w.alloc (.cells #[.slice ao n cap] 35)) (.cells #[.slice none 0 0] 35)
  rw [nblk_alloc] at Z0
  have hc := parted_any ao ps n cap k _ (h.new K0) hst hl
  have hle := parts_len ps k
  rw [← h.1] at hle
  clear h
  go_enter Try.func43, Try.ntmps43
  go_wp2_with fail
  refine hc.mono ?_
  rintro o w1 ⟨a1, n1, a2, n2, a3, n3, c3, rfl, ⟨e1, S1⟩, ⟨e2, S2⟩, ⟨e3, S3, h3⟩, K1⟩
  have Z1 := K1.blk Z0 (by simp)
  have KT := K0.trans K1
  obtain ⟨co, c', w2, hap, S4, l1, l2, _, K2⟩ := append_full 33 Try.underlying33 info_seq w1 a1 a3 (blw ps k) (abv ps k) n1 n3 c3 e1 e3 S1 S3 (by omega) (by omega)
  have Z2 := K2.blk Z1 (by simp)
  have KF := KT.trans K2
  have q0 := cell_of_blk Z2 (i := 0) rfl
  have q1 := free_of_blk Z2 0
  have HM : Hid (n1 + n3 = (wo ps k).length ∧ SlP w2 co (wo ps k) ∧ n1 + n3 ≤ c' ∧ (co = none → c' = 0)) := ⟨by unfold wo; rw [List.length_append, e1, e3], S4, l1, l2⟩
  clear hc K0 K1 Z0 Z1 KT K2 e1 e2 e3 S1 S2 S3 S4 l1 l2 h3 hle
  go_wp2_with (at_builtin; refine wpList_append_run rfl (.tmp 15) (.tmp 16) 33 rfl rfl rfl hap ?_)
  have Z5 := blk_set Z2 0 (.slice co (n1 + n3) c')
  have y0 := cell_of_blk Z5 (i := 0) rfl
  refine bodyPost_ret (v := .agg #[.slice co (n1 + n3) c']) (by simp [results, Try.results43, go_sem, y0]) rfl ⟨co, n1 + n3, c', rfl, ⟨HM.out.1, ?_, HM.out.2.2⟩, KF.setCell (Or.inr (Nat.le_succ _)) _⟩
  exact SlP.setMap HM.out.2.1 Z2 _
set_option maxHeartbeats 1000000 in
theorem with_any (ao : Option Addr) (ps : List Pr) (n cap : Nat) (p : Pr) (w : World) (h : MpV w ao n cap ps) (hst : Str ps) (hl : n ≤ 1000) :
    Calls Try.prog 42 #[.agg #[.slice ao n cap], .agg #[.int .u64 p.k, .int .u64 p.v]] w fun o w' => ∃ bo m cb, o = .returned (.agg #[.slice bo m cb]) ∧ MpV w' bo m cb (wi ps p) ∧ Kept [] w w' := by
  have K0 : Kept [] w (((w.alloc (.cells #[.slice ao n cap] 35)).alloc (.cells #[.int .u64 p.k, .int .u64 p.v] 56)).alloc (.cells #[.slice none 0 0] 35)) := (((Kept.refl _ _).alloc _).alloc _).alloc _
  have Z0 := blk_alloc_new ((w.alloc (.cells #[.slice ao n cap] 35)).alloc (.cells #[.int .u64 p.k, .int .u64 p.v] 56)) (.cells #[.slice none 0 0] 35)
  have Y0 := ((Kept.refl [] ((w.alloc (.cells #[.slice ao n cap] 35)).alloc (.cells #[.int .u64 p.k, .int .u64 p.v] 56))).alloc (.cells #[.slice none 0 0] 35)).blk (blk_alloc_new (w.alloc (.cells #[.slice ao n cap] 35)) (.cells #[.int .u64 p.k, .int .u64 p.v] 56)) (by simp)
  rw [nblk_alloc, nblk_alloc] at Z0
  rw [nblk_alloc] at Y0
  have hc := parted_any ao ps n cap p.k _ (h.new K0) hst hl
  have hle := parts_len ps p.k
  rw [← h.1] at hle
  clear h
  go_enter Try.func42, Try.ntmps42
  go_wp2_with fail
  refine hc.mono ?_
  rintro o w1 ⟨a1, n1, a2, n2, a3, n3, c3, rfl, ⟨e1, S1⟩, ⟨e2, S2⟩, ⟨e3, S3, h3⟩, K1⟩
  have Z1 := K1.blk Z0 (by simp)
  have Y1 := K1.blk Y0 (by simp)
  have KT := K0.trans K1
  have KA : Kept [] w1 (w1.alloc (.cells #[.int .u64 p.k, .int .u64 p.v] 56)) := (Kept.refl _ _).alloc _
  have SB : SlP (w1.alloc (.cells #[.int .u64 p.k, .int .u64 p.v] 56)) (some ⟨w1.heap.size, 0, none⟩) [p] := own_cell (blk_alloc_new _ _) rfl rfl
  obtain ⟨co, c', w2, hap, S4, _, _, O4, K2⟩ := append_full 33 Try.underlying33 info_seq _ a1 (some ⟨w1.heap.size, 0, none⟩) (blw ps p.k) [p] n1 1 1 e1 rfl (S1.new KA) SB (by omega) (by omega)
  have O5 := O4 (by omega)
  have KA2 := KA.trans K2
  obtain ⟨u, w3, hap2, O6, K3⟩ := append_own 33 Try.underlying33 info_seq w2 _ _ a3 (blw ps p.k ++ [p]) (abv ps p.k) n3 c3 e3 O5 (S3.new KA2) h3 K2.size (by rw [List.length_append]; simp; omega) (by omega)
  have KB := Kept.ofOwn KA2 O5 (by rw [nblk_alloc]; omega) K3
  have Z2 := KB.blk Z1 (by simp)
  have KF := KT.trans KB
  obtain ⟨bo, cb, rfl, S7, l1, l2⟩ := O6.shape
  have ew : blw ps p.k ++ [p] ++ abv ps p.k = wi ps p := by unfold wi; simp
  rw [ew] at S7 l1 hap2
  have HM : Hid (SlP w3 bo (wi ps p) ∧ (wi ps p).length ≤ cb ∧ (bo = none → cb = 0)) := ⟨S7, l1, l2⟩
  obtain ⟨m, hm⟩ : ∃ m, m = (wi ps p).length := ⟨_, rfl⟩
  rw [← hm] at hap2
  have EM : Hid _ := hm
  have q0 := cell_of_blk Z2 (i := 0) rfl
  have q1 := free_of_blk Z2 0
  have y0 := cell_of_blk Y1 (i := 0) rfl
  have y1 := cell_of_blk Y1 (i := 1) rfl
  clear hc K0 K1 Z0 Z1 Y0 Y1 KT K2 K3 KA KA2 KB e1 e2 e3 S1 S2 S3 S4 S7 SB O4 O5 O6 l1 l2 h3 hle ew hm
  go_wp2_with (first
    | (at_builtin; refine wpList_append_run rfl (.tmp 16) (.tmp 18) 33 rfl rfl rfl hap ?_)
    | (at_builtin; refine wpList_append_run rfl (.tmp 19) (.tmp 20) 33 rfl rfl rfl hap2 ?_))
  have Z5 := blk_set Z2 0 (.slice bo m cb)
  have y5 := cell_of_blk Z5 (i := 0) rfl
  refine bodyPost_ret (v := .agg #[.slice bo m cb]) (by simp [results, Try.results42, go_sem, y5]) rfl ⟨bo, m, cb, rfl, ⟨EM.out, ?_, by rw [EM.out]; exact HM.out.2.1, HM.out.2.2⟩, KF.setCell (Or.inr (by show _ ≤ w.heap.size + 1 + 1; omega)) _⟩
  exact SlP.setMap HM.out.1 Z2 _
end Go.Proofs.Ytlmkcakmeldfeaa.Q
namespace Go.Proofs.Ytlmkcakmeldfeaa.Q
set_option maxRecDepth 100000
open Go.RowKit Go.Shelf
open Go.Deep
attribute [local go_sem] Oper.semAt_some
set_option maxHeartbeats 1000000 in
theorem from_any (ao : Option Addr) (ps : List Pr) (n cap : Nat) (k : Int) (w : World) (h : MpV w ao n cap ps) (hst : Str ps) (hl : n ≤ 1000) :
    Calls Try.prog 59 #[.agg #[.slice ao n cap], .int .u64 k] w fun o w' => ∃ B2 a1, o = .returned (.func (.func 67) #[] #[.pointer (some ⟨w.heap.size, 0, none⟩), .pointer (some ⟨B2, 0, none⟩)]) ∧
      w'.heap[w.heap.size]? = some (.cells #[.slice ao n cap] 35 (0, 0)) ∧ w'.heap[B2]? = some (.cells #[.slice a1 (blw ps k).length (blw ps k).length] 33 (0, 0)) ∧ Kept [] w w' := by
  have K0 : Kept [] w (w.alloc (.cells #[.slice ao n cap] 35)) := (Kept.refl _ _).alloc _
  have Z0 := blk_alloc_new w (.cells #[.slice ao n cap] 35)
  have hc := parted_any ao ps n cap k _ (h.new K0) hst hl
  clear h
  go_enter Try.func59, Try.ntmps59
  go_wp2_with fail
  refine hc.mono ?_
  rintro o w1 ⟨a1, n1, a2, n2, a3, n3, c3, rfl, ⟨e1, S1⟩, ⟨e2, S2⟩, ⟨e3, S3, h3⟩, K1⟩
  have Z1 := K1.blk Z0 (by simp)
  have KT := K0.trans K1
  have E1 : Hid _ := e1
  clear hc K0 K1 Z0 e1 e2 e3 S1 S2 S3 h3
  go_wp2
  go_ret
  have KA : Kept [] w1 (w1.alloc (.cells #[.slice a1 n1 n1] 33)) := (Kept.refl [] w1).alloc _
  refine ⟨w1.heap.size, a1, rfl, KA.blk Z1 (by simp), ?_, KT.trans KA⟩
  rw [← E1.out]
  exact blk_alloc_new w1 _
theorem Kept.grown {w w' : World} (k : Kept [] w w') : w.grownBy w' none := ⟨k.os, k.tape, k.output, k.size, fun i hi _ => k.block i hi (by simp)⟩
theorem Kept.of_below' {n₀ : Nat} {w w' : World} (h : Below n₀ w w') {b : Nat} {o : Obj} (hb : b < n₀) (hz : w.heap[b]? = some o) : w'.heap[b]? = some o := (h.block b hb).trans hz
/-- Pairs below n₀, wherever they lie. -/
def SlB (n₀ : Nat) (W : World) (ao : Option Addr) (es : List Pr) : Prop := 0 < es.length → ∃ b off, ao = some ⟨b, off, none⟩ ∧ b < n₀ ∧ ∀ i, i < es.length → W.cell? ⟨b, off + i * 2, none⟩ = some (.int .u64 (es[i]?.getD default).k) ∧ W.cell? ⟨b, off + i * 2 + 1, none⟩ = some (.int .u64 (es[i]?.getD default).v)
theorem SlB.below {n₀ : Nat} {A B : World} (h : Below n₀ A B) {ao : Option Addr} {es : List Pr} (s : SlB n₀ A ao es) : SlB n₀ B ao es := by
  intro h0
  obtain ⟨b, off, rfl, hb, hc⟩ := s h0
  exact ⟨b, off, rfl, hb, fun i hi => ⟨(h.cell (p := ⟨b, off + i * 2, none⟩) hb).trans (hc i hi).1, (h.cell (p := ⟨b, off + i * 2 + 1, none⟩) hb).trans (hc i hi).2⟩⟩
theorem SlP.slb {W : World} {ao : Option Addr} {es : List Pr} (s : SlP W ao es) : SlB W.heap.size W ao es := by
  intro h0
  obtain ⟨b, off, rfl, hb, hc⟩ := s h0
  refine ⟨b, off, rfl, hb, fun i hi => ?_⟩
  have e : es[i]?.getD default = es[i] := by simp [hi]
  rw [e]
  exact ⟨hc i hi 0 _ rfl, hc i hi 1 _ rfl⟩
set_option maxHeartbeats 2000000 in
/-- The function that goes through the pairs: for every loop's body that keeps what lay below n₀. -/
theorem from1_in (F : Fence) (m : Nat) (hf : F.fn 67) (hro : F.round = none) (hm : 1 ≤ m) (l B1 B2 n₀ n cap n1 : Nat) (ao a1 : Option Addr) (ps : List Pr) (hn : n = ps.length) (hnc : n ≤ cap) (h1 : n1 ≤ n) (hz : ao = none → cap = 0) (hl : n ≤ 1000) (J Jx : List Pr → World → Prop)
    (hY : ∀ pre x W, J pre W → pre.length < n - n1 → YieldAt F (m - 1) Try.prog l #[.agg #[.int .u64 x.k, .int .u64 x.v]] W fun e W' =>
      (e = .returned (.bool true) ∧ J (pre ++ [x]) W' ∧ Below n₀ W W') ∨ (e = .returned (.bool false) ∧ Jx (pre ++ [x]) W'))
    (W : World) (hJ : AbidesFrom W.heap.size J) (hn0 : n₀ ≤ W.heap.size) (c1 : W.cell? ⟨B1, 0, none⟩ = some (.slice ao n cap)) (c2 : W.cell? ⟨B2, 0, none⟩ = some (.slice a1 n1 n1)) (hS : SlB n₀ W ao ps) (h0 : J [] W) :
    CallsIn F m Try.prog 67 #[.func (.yield l) #[] #[], .pointer (some ⟨B1, 0, none⟩), .pointer (some ⟨B2, 0, none⟩)] W fun e W' => (∃ v, e = .returned v) ∧
      ((∃ ys, ys = ps.drop n1 ∧ J ys W') ∨ (∃ pre, (∃ j, j < n - n1 ∧ pre = (ps.drop n1).take (j + 1)) ∧ Jx pre W')) := by
  have HN : Hid _ := hn
  clear hn
  refine callsIn_of_wp Try.func67 rfl hf ?_ hro
  simp only [Try.ntmps67, List.size_toArray, List.length_cons, List.length_nil, Nat.reduceAdd, Nat.reduceSub, Array.replicate_succ, Array.replicate_zero, List.push_toArray, List.append_toArray, List.nil_append, List.cons_append]
  have z1 : (n1 : Int) ≤ (n : Int) := by omega
  cases ao with
  | none =>
    obtain rfl : cap = 0 := hz rfl
    obtain rfl : n = 0 := by omega
    obtain rfl : n1 = 0 := by omega
    gi_wp2
    gi_loopw [12] (fun i wr => i = .int .i64 0 ∧ J [] wr) (fun _ _ => 0)
    case atStart => exact ⟨rfl, h0⟩
    case round =>
      obtain ⟨rfl, hJs⟩ := hrel
      gi_wp2
      go_end0
      exact ⟨⟨_, rfl⟩, .inl ⟨[], by rw [List.eq_nil_of_length_eq_zero HN.out.symm]; rfl, hJs⟩⟩
  | some ad =>
    by_cases hlt : n1 < n
    · have g1 : ¬ cap = n1 := by omega
      have g2 : ¬ cap - n1 = 0 := by omega
      obtain ⟨b, off, he, hb, hc⟩ := hS (by have := HN.out; omega)
      cases he
      gi_wp2
      obtain ⟨L, hL⟩ : ∃ L, L = n - n1 := ⟨_, rfl⟩
      rw [← hL] at hY ⊢
      have hLn : n1 + L = n := by omega
      clear hL
      gi_loopw [12] (fun vi wr => ∃ k : Nat, k ≤ L ∧ vi = .int .i64 k ∧ J ((ps.drop n1).take k) wr ∧ Below n₀ W wr) (fun vi _ => L - (intOf vi).toNat)
      case atStart => exact ⟨0, Nat.zero_le _, rfl, h0, Below.refl _ _⟩
      case round =>
        obtain ⟨k, hk, rfl, hJs, hB⟩ := hrel
        by_cases hlt2 : k < L
        · have hkz : (k : Int) < (L : Int) := by omega
          obtain ⟨d0, d1⟩ := hc (n1 + k) (by have := HN.out; omega)
          have c0 := (hB.cell (p := ⟨b, off + (n1 + k) * 2, none⟩) hb).trans d0
          have c1' := (hB.cell (p := ⟨b, off + (n1 + k) * 2 + 1, none⟩) hb).trans d1
          rw [Nat.add_mul, ← Nat.add_assoc] at c0 c1'
          have ex : (ps.drop n1).take (k + 1) = (ps.drop n1).take k ++ [ps[n1 + k]?.getD default] := by
            rw [List.take_add_one]; congr 1; simp [(by have := HN.out; omega : n1 + k < ps.length)]
          have hlen : ((ps.drop n1).take k).length < L := by
            have := HN.out; simp; omega
          obtain ⟨x, hx⟩ : ∃ x, ps[n1 + k]?.getD default = x := ⟨_, rfl⟩
          rw [hx] at c0 c1' ex
          have HX : Hid _ := ex
          clear ex hx d0 d1
          have KA : Kept [] wr (wr.alloc (.cells #[.int .u64 x.k, .int .u64 x.v] 56)) := (Kept.refl _ _).alloc _
          have hJ2 := hJ _ _ _ none hJs (Kept.grown KA) (by intro r e; cases e)
          obtain ⟨fn, tmps, assign, body, hy, hR⟩ := hY _ x _ hJ2 hlen
          have hBA : Below n₀ W (wr.alloc (.cells #[.int .u64 x.k, .int .u64 x.v] 56)) := hB.trans ((Below.refl _ wr).alloc (by have := hB.size; omega) _)
          gi_wp2
          refine hR.mono ?_
          rintro e W3 (⟨rfl, hJ3, hk3⟩ | ⟨rfl, hJx3⟩)
          · gi_wp2
            go_roundw
            case rel => exact ⟨k + 1, by omega, by simp, by rw [HX.out]; exact hJ3, hBA.trans hk3⟩
            case measure => simp [intOf]; omega
          · gi_wp2
            refine bodyPost_ret (results_none rfl _ _ _) rfl ?_
            exact ⟨⟨_, rfl⟩, .inr ⟨_, ⟨k, by omega, HX.out.symm⟩, hJx3⟩⟩
        · obtain rfl : k = L := by omega
          gi_wp2
          go_end0
          exact ⟨⟨_, rfl⟩, .inl ⟨_, by rw [List.take_of_length_le]; simp; have := HN.out; omega, hJs⟩⟩
    · obtain rfl : n1 = n := by omega
      have e0 : n1 - n1 = 0 := by omega
      by_cases g1 : cap = n1
      · gi_wp2
        gi_loopw [12] (fun i wr => i = .int .i64 0 ∧ J [] wr) (fun _ _ => 0)
        case atStart => exact ⟨rfl, h0⟩
        case round =>
          obtain ⟨rfl, hJs⟩ := hrel
          gi_wp2
          go_end0
          exact ⟨⟨_, rfl⟩, .inl ⟨[], (List.drop_eq_nil_of_le (by have := HN.out; omega)).symm, hJs⟩⟩
      · gi_wp2
        gi_loopw [12] (fun i wr => i = .int .i64 0 ∧ J [] wr) (fun _ _ => 0)
        case atStart => exact ⟨rfl, h0⟩
        case round =>
          obtain ⟨rfl, hJs⟩ := hrel
          gi_wp2
          go_end0
          exact ⟨⟨_, rfl⟩, .inl ⟨[], (List.drop_eq_nil_of_le (by have := HN.out; omega)).symm, hJs⟩⟩
end Go.Proofs.Ytlmkcakmeldfeaa.Q
namespace Go.Proofs.Ytlmkcakmeldfeaa.Q
set_option maxRecDepth 100000
open Go.RowKit Go.Shelf
open Go.Deep
attribute [local go_sem] Oper.semAt_some
theorem from_stops (m : Nat) (hm : 1 ≤ m) (B1 B2 n₀ n cap n1 : Nat) (ao a1 : Option Addr) (ps : List Pr) (w : World) (hn : n = ps.length) (hnc : n ≤ cap) (h1 : n1 ≤ n) (hz : ao = none → cap = 0) (hl : n ≤ 1000) (hn0 : n₀ ≤ w.heap.size)
    (z1 : w.heap[B1]? = some (.cells #[.slice ao n cap] 35 (0, 0))) (z2 : w.heap[B2]? = some (.cells #[.slice a1 n1 n1] 33 (0, 0))) (hS : SlB n₀ w ao ps) :
    SeqStopsK Fence.wide m Try.prog 67 #[.pointer (some ⟨B1, 0, none⟩), .pointer (some ⟨B2, 0, none⟩)] (fun x : Pr => #[.agg #[.int .u64 x.k, .int .u64 x.v]]) (Below n₀) (fun ys => ys = ps.drop n1) (fun pre => ∃ j, j < n - n1 ∧ pre = (ps.drop n1).take (j + 1)) (n - n1) w := fun l J Jx W hW hJ _ hY h0 => by
  have c1 := cell_of_blk ((hW.block B1 (lt_of_blk z1)).trans z1) (i := 0) rfl
  have c2 := cell_of_blk ((hW.block B2 (lt_of_blk z2)).trans z2) (i := 0) rfl
  exact from1_in Fence.wide m trivial rfl hm l B1 B2 n₀ n cap n1 ao a1 ps hn hnc h1 hz hl J Jx hY W hJ (Nat.le_trans hn0 hW.size) c1 c2 (hS.below (hW.mono hn0)) h0
/-- What has been taken of a range. -/
def Tk (most nn : Int) (pre : List Pr) : Prop := (∀ x ∈ pre, x.k ≤ most) ∧ pre.length ≤ nn.toNat
/-- All but the last one. -/
def dl (l : List Pr) : List Pr := l.dropLast
theorem dl_concat (l : List Pr) (x : Pr) : dl (l ++ [x]) = l := by unfold dl; simp
def kW (pre : List Pr) : List Value := pre.map (fun p => .int .u64 p.k)
/-- The keys of a range. -/
def rgK (ps : List Pr) (least most nn : Int) : List Int := (((nbl ps least).filter (fun p => decide (p.k ≤ most))).map Pr.k).take nn.toNat
theorem Str.parts {ps : List Pr} (h : Str ps) (k : Int) : ps = blw ps k ++ nbl ps k := by
  refine h.ext_mem ?_ (fun x => ?_)
  · unfold Str; rw [List.pairwise_append]
    refine ⟨h.filter _, h.filter _, fun x hx y hy => ?_⟩
    have h1 := (mem_blw.1 hx).2
    have h2 := (mem_nbl.1 hy).2
    omega
  · rw [List.mem_append, mem_blw, mem_nbl]
    constructor
    · intro hx
      by_cases q : x.k < k
      · exact Or.inl ⟨hx, q⟩
      · exact Or.inr ⟨hx, by omega⟩
    · rintro (⟨hx, _⟩ | ⟨hx, _⟩) <;> exact hx
theorem drop_parts {ps : List Pr} (h : Str ps) (k : Int) : ps.drop (blw ps k).length = nbl ps k := by
  conv => lhs; rw [h.parts k]
  rw [List.drop_left' (by rw [← h.parts k])]
theorem rgK_done {ps : List Pr} {least most nn : Int} (h : Tk most nn (nbl ps least)) : rgK ps least most nn = (nbl ps least).map Pr.k := by
  unfold rgK
  rw [List.filter_eq_self.2 (fun x hx => by simpa using h.1 x hx), List.take_of_length_le (by simpa using h.2)]
theorem rgK_stop {ps : List Pr} (hs : Str ps) {least most nn : Int} {pre : List Pr} {x : Pr} {j : Nat} (he : (nbl ps least).take (j + 1) = pre ++ [x]) (h : Tk most nn pre) (hx : most < x.k ∨ nn ≤ pre.length) : rgK ps least most nn = pre.map Pr.k := by
  have e : nbl ps least = pre ++ ([x] ++ (nbl ps least).drop (j + 1)) := by
    conv => lhs; rw [← List.take_append_drop (j + 1) (nbl ps least), he]
    rw [List.append_assoc]
  unfold rgK
  have f1 : pre.filter (fun p => decide (p.k ≤ most)) = pre := List.filter_eq_self.2 (fun y hy => by simpa using h.1 y hy)
  rcases hx with q | q
  · have f2 : ([x] ++ (nbl ps least).drop (j + 1)).filter (fun p => decide (p.k ≤ most)) = [] := by
      rw [List.filter_eq_nil_iff]
      intro y hy
      have hp : Str ([x] ++ (nbl ps least).drop (j + 1)) := by
        have : Str (nbl ps least) := hs.filter _
        rw [e] at this
        exact (List.pairwise_append.1 this).2.1
      rw [List.singleton_append, Str, List.pairwise_cons] at hp
      rw [List.singleton_append] at hy
      rcases List.mem_cons.1 hy with r | r
      · subst r; simp; omega
      · have := hp.1 y r; simp; omega
    rw [e, List.filter_append, f1, f2, List.append_nil, List.take_of_length_le (by simpa using h.2)]
  · have hl : pre.length = nn.toNat := by have := h.2; omega
    rw [e, List.filter_append, f1, List.map_append, ← hl, List.take_left' (by simp)]
theorem Tk.next {most nn : Int} {pre : List Pr} {x : Pr} (h : Tk most nn pre) (h1 : x.k ≤ most) (h2 : (pre.length : Int) < nn) : Tk most nn (pre ++ [x]) :=
  ⟨fun y hy => by rcases List.mem_append.1 hy with q | q; exact h.1 y q; simp at q; subst q; exact h1, by rw [List.length_append]; simp; omega⟩
theorem kW_sl {W : World} {base : Nat} {v : Value} {pre : List Pr} (h : W.ownsRow base 41 1 v pre.length (kW pre)) : ∃ co c', v = .slice co pre.length c' ∧ Sl W co (pre.map Pr.k) ∧ ∀ ad, co = some ad → base ≤ ad.block := by
  obtain ⟨h1, ⟨rfl, h0⟩ | ⟨g, cap, cur, rfl, hb, hg, hnc, hcm, hsz, htk⟩⟩ := h
  · have : pre = [] := List.eq_nil_of_length_eq_zero h0
    subst this
    exact ⟨none, 0, rfl, fun h => absurd h (by simp), by simp⟩
  · refine ⟨_, cap, rfl, fun _ => ⟨_, rfl, fun i hi => ?_⟩, by intro ad e; cases e; exact hb⟩
    rw [addr_add0]
    refine cell_of_blk hg ?_
    have q : (kW pre)[i]? = some (.int .u64 (pre.map Pr.k)[i]) := by simp at hi; simp [kW, hi]
    rw [← htk, List.getElem?_take] at q
    split at q
    · rw [← Array.getElem?_toList]; exact q
    · cases q
theorem box_alloc {W : World} {B : Nat} {c : Array Value} {t : TypeId} (h : W.heap[B]? = some (.cells c t (0, 0))) (o : Obj) : (W.alloc o).heap[B]? = some (.cells c t (0, 0)) := by
  rw [blk_alloc_lt _ _ _ (lt_of_blk h)]; exact h
theorem own_mono {W : World} {b b' : Nat} {e : TypeId} {sz : Nat} {v : Value} {k : Nat} {xs : List Value} (h : W.ownsRow b e sz v k xs) (hb : b' ≤ b) : W.ownsRow b' e sz v k xs := by
  obtain ⟨h1, h2 | ⟨g, cap, cur, rfl, hg, hr⟩⟩ := h
  · exact ⟨h1, Or.inl h2⟩
  · exact ⟨h1, Or.inr ⟨g, cap, cur, rfl, by omega, hr⟩⟩
/-- A box that is elder than a row is not the row. -/
theorem box_old {W w2 : World} {base B C : Nat} {e t : TypeId} {sz : Nat} {v u u' : Value} {k : Nat} {xs : List Value} {tmp : Obj} (h : Boxed W B t u) (hr : W.ownsRow base e sz v k xs) (hB : B < base) (hg : (W.alloc tmp).grownBy w2 v.ownBlock) (hne : B ≠ C) : Boxed (w2.setCell ⟨C, 0, none⟩ u') B t u := by
  have h2 : Boxed w2 B t u := (h.alloc tmp).kept hg (by
    intro q
    have := (World.ownsRow.lt hr B q.symm).1; omega)
  show (w2.setCell ⟨C, 0, none⟩ u').heap[B]? = _
  rw [blk_setCell_other _ _ _ _ (fun q => hne q)]; exact h2
set_option maxHeartbeats 4000000 in
theorem keys_any (ao : Option Addr) (ps : List Pr) (n cap : Nat) (least most nn : Int) (w : World) (h : MpV w ao n cap ps) (hst : Str ps) (hl : n ≤ 1000) :
    Calls Try.prog 45 #[.agg #[.slice ao n cap], .int .u64 least, .int .u64 most, .int .i64 nn] w fun o w' => ∃ ko kn kc, o = .returned (.slice ko kn kc) ∧ kn = (rgK ps least most nn).length ∧ Sl w' ko (rgK ps least most nn) ∧ (∀ ad, ko = some ad → w.heap.size ≤ ad.block) ∧ Kept [] w w' := by
  have h1 : (1 : Nat) ≤ 4 := by omega
  have h40 : Fence.wide.fn 59 := trivial
  have h45 : Fence.wide.fn 67 := trivial
  have hro : Fence.wide.round = none := rfl
  obtain ⟨i0, hi, hz0, hz1, hz2⟩ := info_parts info_u64
  obtain ⟨W0, hW0⟩ : ∃ W0, W0 = (((w.alloc (.cells #[.slice ao n cap] 35)).alloc (.cells #[.int .u64 most] 41)).alloc (.cells #[.int .i64 nn] 3)).alloc (.cells #[.slice none 0 0] 44) := ⟨_, rfl⟩
  have K0 : Kept [] w W0 := by rw [hW0]; exact ((((Kept.refl _ _).alloc _).alloc _).alloc _).alloc _
  have hc := from_any ao ps n cap least W0 (h.new K0) hst hl
  refine (callsIn_wide (n := 4)).1 ?_
  refine callsIn_of_wp_marks Try.func45 rfl trivial ?_ hro
  simp only [Try.ntmps45, List.size_toArray, List.length_cons, List.length_nil, Nat.reduceAdd, Nat.reduceSub, Array.replicate_succ, Array.replicate_zero, List.push_toArray, List.append_toArray, List.nil_append, List.cons_append]
  rw [hW0] at hc
  gi_wp2_with (gi_at_call 59; refine (callsIn_wide.2 hc).mono ?_; rintro o w1 ⟨B2, a1, rfl, Z1, Z2, K1⟩)
  have MB := h.new (K0.trans (by rw [hW0]; exact K1))
  rw [← hW0] at Z1 K1
  obtain ⟨H, hH⟩ : ∃ H, H = w.heap.size := ⟨_, rfl⟩
  have hs0 : W0.heap.size = H + 1 + 1 + 1 + 1 := by rw [hW0, hH]; simp only [nblk_alloc]
  rw [hs0] at Z1
  have bK : Boxed W0 (H + 1 + 1 + 1) 44 (.slice none 0 0) := by rw [hW0, hH]; have := blk_alloc_new (((w.alloc (.cells #[.slice ao n cap] 35)).alloc (.cells #[.int .u64 most] 41)).alloc (.cells #[.int .i64 nn] 3)) (.cells #[.slice none 0 0] 44); simp only [nblk_alloc] at this; exact this
  have bN : Boxed W0 (H + 1 + 1) 3 (.int .i64 nn) := by rw [hW0, hH]; have := box_alloc (blk_alloc_new ((w.alloc (.cells #[.slice ao n cap] 35)).alloc (.cells #[.int .u64 most] 41)) (.cells #[.int .i64 nn] 3)) (.cells #[.slice none 0 0] 44); simp only [nblk_alloc] at this; exact this
  have bM : Boxed W0 (H + 1) 41 (.int .u64 most) := by rw [hW0, hH]; have := box_alloc (box_alloc (blk_alloc_new (w.alloc (.cells #[.slice ao n cap] 35)) (.cells #[.int .u64 most] 41)) (.cells #[.int .i64 nn] 3)) (.cells #[.slice none 0 0] 44); simp only [nblk_alloc] at this; exact this
  have bK1 : Boxed w1 (H + 1 + 1 + 1) 44 (.slice none 0 0) := K1.blk bK (by simp)
  have bN1 : Boxed w1 (H + 1 + 1) 3 (.int .i64 nn) := K1.blk bN (by simp)
  have bM1 : Boxed w1 (H + 1) 41 (.int .u64 most) := K1.blk bM (by simp)
  have hs1 : H + 1 + 1 + 1 + 1 ≤ w1.heap.size := by rw [← hs0]; exact K1.size
  have KT := K0.trans K1
  have hB0 : Below H w w1 := by rw [hH]; exact KT.below (by simp)
  have hSB : SlB H w1 ao ps := (SlP.slb h.2.1).below (by have := hB0; rw [hH] at this; exact this) |> fun q => by rw [hH]; exact q
  have HD : Hid _ := drop_parts hst least
  have hn1 : (blw ps least).length ≤ n := by have := (parts_len ps least).1; rw [← h.1] at this; exact this
  obtain ⟨n1, hn1e⟩ : ∃ n1, n1 = (blw ps least).length := ⟨_, rfl⟩
  rw [← hn1e] at Z2 HD hn1
  have hseq := from_stops 3 (by omega) (H + 1 + 1 + 1 + 1) B2 H n cap n1 ao a1 ps w1 MB.1 MB.2.2.1 hn1 MB.2.2.2 hl (by omega) Z1 Z2 hSB
  rw [← hH]
  have hHw : H ≤ w.heap.size := by omega
  have HH : Hid (H = w.heap.size) := hH
  clear hH
  clear hc bK bN bM K1 hW0 hs0 K0 Z1 Z2 MB hn1e hSB h W0
  refine wpIn_rangeFunc_ownH hro h1 (gf := 67) (lb := #[.pointer (some ⟨H + 1 + 1 + 1 + 1, 0, none⟩), .pointer (some ⟨B2, 0, none⟩)]) rfl h45 (enters_of Try.func67 (by kernel_rfl) rfl)
    hseq belowK_t (belowK_b (by omega)) (Below.refl _ _) (fun _ => rfl)
    (fun pre W => (∃ v, Boxed W (H + 1 + 1 + 1) 44 v ∧ W.ownsRow (H + 1 + 1 + 1 + 1) 41 1 v pre.length (kW pre) ∧ Tk most nn pre) ∧ (Boxed W (H + 1 + 1) 3 (.int .i64 nn) ∧ Boxed W (H + 1) 41 (.int .u64 most)) ∧ Below H w W)
    (fun c pre' W => (∃ v, Boxed W (H + 1 + 1 + 1) 44 v ∧ W.ownsRow (H + 1 + 1 + 1 + 1) 41 1 v (dl pre').length (kW (dl pre')) ∧ (c = .exit 0 ∧ ∃ pre x, pre' = pre ++ [x] ∧ Tk most nn pre ∧ (most < x.k ∨ nn ≤ pre.length))) ∧ Below H w W)
    (OwnFrom.and (Own.from (holdsRow_own (H + 1 + 1 + 1 + 1) (H + 1 + 1 + 1) 44 41 1 (fun pre => pre.length) (fun pre => kW pre) (fun pre _ => Tk most nn pre)) _) (OwnFrom.and (OwnFrom.and (Own.from (boxed_own _ _ _) _) (Own.from (boxed_own _ _ _) _)) (ownFrom_below hHw (by omega))))
    (fun c => OwnFrom.and (Own.from (holdsRow_own (H + 1 + 1 + 1 + 1) (H + 1 + 1 + 1) 44 41 1 (fun pre' => (dl pre').length) (fun pre' => kW (dl pre')) (fun pre' _ => (c = .exit 0 ∧ ∃ pre x, pre' = pre ++ [x] ∧ Tk most nn pre ∧ (most < x.k ∨ nn ≤ pre.length)))) _) (ownFrom_below hHw (by omega)))
    ⟨⟨_, bK1, World.ownsRow_nil _ _ _ _, ⟨by simp, by simp⟩⟩, ⟨bN1, bM1⟩, hB0⟩
    (fun x a' W => ∃ Bx, W.heap[Bx]? = some (.cells #[.int .u64 x.k, .int .u64 x.v] 56 (0, 0)) ∧ a' = { tmps := #[.agg #[.slice ao n cap], .int .u64 least, .int .u64 most, .int .i64 nn, .pointer (some ⟨H, 0, none⟩), undef, .pointer (some ⟨H + 1, 0, none⟩), .pointer (some ⟨H + 1 + 1, 0, none⟩), .slice none 0 0, .pointer (some ⟨H + 1 + 1 + 1, 0, none⟩), .pointer (some ⟨Bx, 0, none⟩), .agg #[.slice ao n cap], .int .u64 least, .func (.func 67) #[] #[.pointer (some ⟨H + 1 + 1 + 1 + 1, 0, none⟩), .pointer (some ⟨B2, 0, none⟩)], .agg #[.int .u64 x.k, .int .u64 x.v], undef, undef, undef, undef, undef, undef, undef, undef, undef, undef, undef, undef, undef, undef, undef, undef], defers := [] })
    (fun x a' _ X Y row hs hg hr => by
      obtain ⟨Bx, hb2, hb3⟩ := hs
      refine ⟨Bx, (hg.block Bx (lt_of_blk hb2) (fun e => ?_)).trans hb2, hb3⟩
      obtain ⟨_, o, ho, hcl⟩ := hr Bx e.symm
      rw [hb2] at ho; cases ho; cases hcl)
    ?assign ?body ?done ?stop
  case assign =>
    rintro l pre x W K ⟨⟨v, bV, hrow, hT⟩, ⟨bN2, bM2⟩, hB⟩ hK
    gi_wp2
    exact hK _ _ ((KeepsOthers.alloc _ _).from _) ((Below.refl _ W).alloc (Nat.le_trans hHw hB.size) _) ⟨⟨v, bV.alloc _, hrow.alloc _, hT⟩, ⟨bN2.alloc _, bM2.alloc _⟩, hB.alloc (Nat.le_trans hHw hB.size) _⟩ ⟨W.heap.size, blk_alloc_new _ _, rfl⟩
  case body =>
    rintro l pre x a' W hl2 ⟨r, hr⟩ ⟨⟨v, bV, hrow, hT⟩, ⟨bN2, bM2⟩, hB⟩ ⟨Bx, bX, rfl⟩ hlt
    obtain ⟨co, c', rfl, _⟩ := kW_sl hrow
    have cV := bV.cell
    have cN := bN2.cell
    have cM := bM2.cell
    have x0 := cell_of_blk bX (i := 0) rfl
    have x1 := cell_of_blk bX (i := 1) rfl
    have hdl := dl_concat pre x
    by_cases q1 : most < x.k
    · have d1 : decide (most < x.k) = true := decide_eq_true q1
      gi_wp2
      exact ⟨KeepsFrom.refl _ _, ⟨_, bV, by rw [hdl]; exact hrow, rfl, pre, x, rfl, hT, Or.inl q1⟩, hB⟩
    · have d1 : decide (most < x.k) = false := decide_eq_false q1
      by_cases q2 : nn ≤ (pre.length : Int)
      · have d2 : decide (nn ≤ (pre.length : Int)) = true := decide_eq_true q2
        gi_wp2
        exact ⟨KeepsFrom.refl _ _, ⟨_, bV, by rw [hdl]; exact hrow, rfl, pre, x, rfl, hT, Or.inr q2⟩, hB⟩
      · have d2 : decide (nn ≤ (pre.length : Int)) = false := decide_eq_false q2
        have hle : H ≤ H + 1 + 1 + 1 := by omega
        gi_wp2_with (gi_at_builtin; refine wpListIn_append_own _ rfl _ _ 44 rfl (H + 1 + 1 + 1 + 1) 41 i0 (.int .u64 0) 1 8 Try.underlying44 hi hz0 hz1 hz2 rfl (by decide) _ _ _ rfl (hrow.alloc _) ⟨W.heap.size, 0, none⟩ 1 1 [.int .u64 x.k] rfl rfl (cell_one_new _ _ _) (by simp [Value.oneCell']) (by unfold maxLen; omega) (by omega) (by have := hl2; simp; have := bV.lt; omega) ?_; intro v' w2 hown' hgrow _; obtain ⟨g', cap', rfl⟩ := ownsRow_succ hown'; obtain ⟨hv1, hv2, hr2, hk2, hb2⟩ := bV.appended (by decide) (own_mono hrow (by omega)) (Nat.le_trans hHw hB.size) hle (own_mono hown' (by omega)) hgrow; have hr3 := hown'.kept (grownBy_setCell' w2 (H + 1 + 1 + 1) (.slice (some ⟨g', 0, none⟩) (pre.length + 1) cap')) (.inr (hv1.not_row (by decide) hown').symm); have hc1 := hv1.cell; have hf1 := hv1.frozen)
        have hN := hT.next (x := x) (by omega) (by omega)
        exact ⟨hk2.from _, hb2, ⟨_, hv2, by unfold kW at hr3 ⊢; rw [List.length_append, List.map_append]; exact hr3, hN⟩, ⟨box_old bN2 hrow (by omega) hgrow (by omega), box_old bM2 hrow (by omega) hgrow (by omega)⟩, hB.trans hb2⟩
  case done =>
    rintro D ys W hD rfl ⟨⟨v, bV, hrow, hT⟩, ⟨bN2, bM2⟩, hB⟩ hK
    rw [HD.out] at hrow hT
    obtain ⟨co, c', rfl, _, hbk⟩ := kW_sl hrow
    have cV := bV.cell
    gi_wp2
    refine ⟨by simp, .inl ⟨_, _, rfl, run_takeDeferred hK, ?_⟩⟩
    refine ⟨_, results_tmp rfl _ _ _, co, _, c', rfl, ?_, ?_, (by have := HH.out; intro ad e; have := hbk ad e; omega), ?_⟩
    · rw [rgK_done hT]; simp
    · obtain ⟨co2, c2, e2, S2, _⟩ := kW_sl (ownsRow_putObj hrow (.deferred none) hK rfl)
      cases e2
      rw [rgK_done hT]; exact S2
    · exact Kept.of_below (by have := hB.trans (belowK_b (w := w) hHw W D (.deferred (some [])) (.deferred none) (by have := HH.out; omega) hK rfl rfl); rw [HH.out] at this; exact this)
  case stop =>
    rintro D c pre' W hD ⟨j, hj, hpre⟩ ⟨⟨v, bV, hrow, rfl, pre, x, rfl, hT, hx⟩, hB⟩ hK
    rw [HD.out] at hpre
    rw [dl_concat] at hrow
    have E : Hid _ := rgK_stop hst hpre.symm hT hx
    obtain ⟨co, c', rfl, _, hbk⟩ := kW_sl hrow
    have cV := bV.cell
    gi_wp2
    refine ⟨by simp, .inl ⟨_, _, rfl, run_takeDeferred hK, ?_⟩⟩
    refine ⟨_, results_tmp rfl _ _ _, co, _, c', rfl, ?_, ?_, (by have := HH.out; intro ad e; have := hbk ad e; omega), ?_⟩
    · rw [E.out]; simp
    · obtain ⟨co2, c2, e2, S2, _⟩ := kW_sl (ownsRow_putObj hrow (.deferred none) hK rfl)
      cases e2
      rw [E.out]; exact S2
    · exact Kept.of_below (by have := hB.trans (belowK_b (w := w) hHw W D (.deferred (some [])) (.deferred none) (by have := HH.out; omega) hK rfl rfl); rw [HH.out] at this; exact this)
end Go.Proofs.Ytlmkcakmeldfeaa.Q
