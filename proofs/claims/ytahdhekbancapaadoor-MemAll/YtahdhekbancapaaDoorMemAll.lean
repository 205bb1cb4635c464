/-
  For every configuration, all words and every script of calls: each tells what the document says, and is just the access that it says; the law MemAll answers true, and the arguments read as they did.
  Conditions: the package variable of handle that the code reads starts as the program's text lays it (the card ties it to that text).
-/
import Derived.Test.YtahdhekbancapaaDoorMSame
import Derived.Test.YtahdhekbancapaaDoorMAlive
import Derived.Test.YtahdhekbancapaaDoorMModel
import Derived.Test.YtahdhekbancapaaDoorHLaid
import Derived.Test.YtahdhekbancapaaDoorPArgs
import Derived.ProofKit
import Derived.SizedLaws
import Derived.Carry
namespace Go.Proofs.YtahdhekbancapaaDoor
open Go.ChangeShapes Go.WideShapes Go.ChangeAt Go.RowKit
open Go.Deep
set_option maxRecDepth 100000

set_option maxRecDepth 100000 in
set_option maxHeartbeats 4000000 in
theorem lof_no (c : Cfg) (ao : Option Addr) (n cap : Nat) (w : World) (h : ¬ (riB c = true ∧ (n : Int) = lnV c ∧ n ≤ 400)) :
    Calls Tryd.prog 18 #[.agg #[.int .i64 c.t, .int .i64 c.s, .int .i64 c.c, .int .i64 c.h, .int .i64 c.k, .int .i64 c.e, .int .i64 c.l], .slice ao n cap] w fun e w' => e = .returned (.tuple #[.pointer none, .agg #[.int .i64 0, .int .i64 0, .int .i64 0, .int .i64 0, .int .i64 0, .int .i64 0, .int .i64 0, .slice none 0 0, .int .i64 0, .int .i64 0, .int .i64 0, .int .u64 0, .int .u64 0, .int .u64 0, .bool false], .bool false]) ∧ Kept [] w w' := by
  cases hr : riB c
  · exact lof_wrong c ao n cap w hr
  · by_cases hl : (n : Int) = lnV c
    · exact lof_big c ao n cap w hr hl (by have : ¬ n ≤ 400 := fun q => h ⟨hr, hl, q⟩; omega)
    · exact lof_len c ao n cap w hr (lnV c) rfl (by simpa using hl)
theorem dsC_len (xs : List Int) (o : OpV) : (dsC xs o).length = xs.length := by
  unfold dsC clV; split
  · split
    · rw [List.length_set]
    · rfl
  · rfl
theorem dsN_le (cnt : Int) (o : OpV) : cnt ≤ dsN cnt o ∧ dsN cnt o ≤ cnt + 1 := by unfold dsN; split <;> omega
theorem cells_opm : Tryd.prog.cellsOf 54 = 6 := by kernel_rfl
theorem open_opms {H : Type} {enc : TypeId × Value → H} {w : World} {r : Reach} {b0 : Nat} {v : Value} {d : DataW H} {p : List MemPlace} (hv : Value.okWide Tryd.prog w r b0 50 v) (h : DataW.Trod enc Tryd.prog w 0 (fun _ => true) true 50 v d p) :
    ∃ ao cap xs, v = .slice ao (List.length xs) cap ∧ SlOf 6 OpM.cells w ao xs ∧ ∀ o ∈ xs, o.wf := by
  obtain ⟨ao, cap, xs, h1, h2, h3, _⟩ := open_slice_of (ks := [.int .i64, .int .i64, .int .i64, .int .u64, .int .u64, .int .u64]) OpM.cells OpM.wf Tryd.underlying50 flat_opm cells_opm (by decide)
    (fun cs hF => by obtain ⟨o, ho, hw⟩ := opm_cells hF; exact ⟨o, ho, hw⟩) hv h
  exact ⟨ao, cap, xs, h1, h2, h3⟩
set_option maxRecDepth 100000 in
set_option maxHeartbeats 4000000 in
theorem memAll_walk (w : World) (c : Cfg) (_g : c.wf) (ao : Option Addr) (xs : List Int) (cap : Nat) (hs : Sl w ao xs) (_hg : ∀ x ∈ xs, isWord x) (hc : ao = none → cap = 0) (lo : Option Addr) (l : List OpM) (lc : Nat) (hl : SlOf 6 OpM.cells w lo l) (hlw : ∀ o ∈ l, o.wf) (hT : Tab w) :
    Calls Tryd.prog 5 #[c.val, .slice ao xs.length cap, .slice lo l.length lc] w fun e w' => e = .returned (.bool true) ∧ Kept [] w w' := by
  simp only [Cfg.val]
  have Z := CB.new w c
  have T : Kept [] w (w.alloc (.cells #[.int .i64 c.t, .int .i64 c.s, .int .i64 c.c, .int .i64 c.h, .int .i64 c.k, .int .i64 c.e, .int .i64 c.l] 23)) := (Kept.refl _ _).alloc _
  have HT : Hid (Tab (w.alloc (.cells #[.int .i64 c.t, .int .i64 c.s, .int .i64 c.c, .int .i64 c.h, .int .i64 c.k, .int .i64 c.e, .int .i64 c.l] 23))) := hT.kept T
  obtain ⟨b, hb⟩ : ∃ b, b = w.heap.size := ⟨_, rfl⟩
  have HT0 : Hid (∀ W' : World, Kept [] w W' → Tab W') := fun _ k => hT.kept k
  clear hT
  obtain ⟨n, hn⟩ : ∃ n, n = xs.length := ⟨_, rfl⟩
  obtain ⟨lm, hlm⟩ : ∃ lm, lm = l.length := ⟨_, rfl⟩
  rw [← hn, ← hlm]
  have HN : Hid _ := hn
  have HM : Hid _ := hlm
  have HA : Hid _ := And.intro hs hc
  have HW : Hid _ := hlw
  clear hn hlm hs hc hlw
  by_cases hG : ¬ (riB c = true ∧ (n : Int) = lnV c ∧ n ≤ 400)
  · have HG : Hid _ := hG
    clear hG
    go_enter Tryd.func5, Tryd.ntmps5
    go_wp2_with fail
    rw [← hb] at Z ⊢
    clear hb
    generalize (w.alloc (.cells #[.int .i64 c.t, .int .i64 c.s, .int .i64 c.c, .int .i64 c.h, .int .i64 c.k, .int .i64 c.e, .int .i64 c.l] 23)) = W at Z T HT ⊢
    refine (lof_no c ao n cap _ HG.out).mono ?_
    rintro e W1 ⟨rfl, K1⟩
    replace Z := Z.kept K1 (by simp)
    replace T := T.trans K1
    replace HT : Hid _ := Tab.kept HT.out K1
    go_wp2_with fail
    refine (alive_any _ (by exact Tab.kept HT.out ((Kept.refl _ _).alloc _))).mono ?_
    rintro e WA ⟨rfl, KA⟩
    go_wp2
    go_ret
    exact ⟨rfl, (T.alloc _).trans KA⟩
  replace hG := Decidable.not_not.1 hG
  have HG : Hid _ := hG
  have hb4 : n ≤ 400 := hG.2.2
  clear hG
  by_cases hm0 : 60 < lm
  · have t2 : decide ((60 : Int) < (lm : Int)) = true := by rw [decide_eq_true_iff]; omega
    go_enter Tryd.func5, Tryd.ntmps5
    go_wp2_with fail
    rw [← hb] at Z ⊢
    clear hb
    generalize (w.alloc (.cells #[.int .i64 c.t, .int .i64 c.s, .int .i64 c.c, .int .i64 c.h, .int .i64 c.k, .int .i64 c.e, .int .i64 c.l] 23)) = W at Z T HT ⊢
    refine (lof_yes c ao xs n cap _ HG.out.1 HG.out.2.1 HG.out.2.2 HN.out (HA.out.1.new T) HA.out.2).mono ?_
    rintro e W1 ⟨m, p, r, g, c', rfl, hsz, M, R, K1⟩
    replace Z := Z.kept K1 (by simp)
    replace T := T.trans K1
    replace HT : Hid _ := Tab.kept HT.out K1
    simp only [rmV]
    clear M R
    go_wp2_with fail
    refine (alive_any _ (by exact Tab.kept HT.out ((Kept.refl _ _).alloc _))).mono ?_
    rintro e WA ⟨rfl, KA⟩
    go_wp2
    go_ret
    exact ⟨rfl, (T.alloc _).trans KA⟩
  have t2 : decide ((60 : Int) < (lm : Int)) = false := by rw [decide_eq_false_iff_not]; omega
  go_enter Tryd.func5, Tryd.ntmps5
  go_wp2_with fail
  rw [← hb] at Z ⊢
  clear hb
  generalize (w.alloc (.cells #[.int .i64 c.t, .int .i64 c.s, .int .i64 c.c, .int .i64 c.h, .int .i64 c.k, .int .i64 c.e, .int .i64 c.l] 23)) = W at Z T HT ⊢
  refine (lof_yes c ao xs n cap _ HG.out.1 HG.out.2.1 HG.out.2.2 HN.out (HA.out.1.new T) HA.out.2).mono ?_
  rintro e W1 ⟨m, p, r, g, c', rfl, hsz, M, R, K1⟩
  have hpr : w.heap.size ≤ p ∧ w.heap.size ≤ r ∧ ¬ g = r := by have := T.size; omega
  replace Z := Z.kept K1 (by simp)
  replace T := T.trans K1
  replace HT : Hid _ := Tab.kept HT.out K1
  obtain ⟨b8, hb8⟩ : ∃ b8, b8 = W1.heap.size := ⟨_, rfl⟩
  have hb8s : w.heap.size ≤ b8 := by have := T.size; omega
  simp only [rmV]
  go_upto_region 2 with (fail)
  refine gen_world (fun V => V.heap[b8]? = some (.cells #[.int .i64 c.t, .int .i64 c.s, .int .i64 c.c, .int .i64 c.h, .int .i64 c.k, .int .i64 c.e, .int .i64 c.l, .slice (some ⟨g, 0, none⟩) n c', .int .i64 0, .int .i64 Acc.zero.k, .int .i64 Acc.zero.c, .int .u64 Acc.zero.v, .int .u64 Acc.zero.o, .int .u64 Acc.zero.n, .bool Acc.zero.d] 44 (0, 0)) ∧ Mm V m p r c xs 0 Acc.zero ∧ RowR V g xs c' ∧ Kept [] w V) ?_ ?_
  · rw [hb8]
    exact ⟨blk_alloc_new _ _, M.new ((Kept.refl [] _).alloc _), R.kept ((Kept.refl [] _).alloc _) (by simp), T.alloc _⟩
  rw [← hb8]
  clear hb8 M R T Z HT K1 hsz
  rintro V ⟨Z, M, R, T⟩
  go_wp2
  go_loopw [34] (fun i wr => ∃ (k : Nat) (cs : List Int) (cnt : Int) (a : Acc) (g c' : Nat), k ≤ lm ∧ i = .int .i64 k ∧ 0 ≤ cnt ∧ cnt ≤ k ∧ cs.length = n ∧ wr.heap[b8]? = some (.cells #[.int .i64 c.t, .int .i64 c.s, .int .i64 c.c, .int .i64 c.h, .int .i64 c.k, .int .i64 c.e, .int .i64 c.l, .slice (some ⟨g, 0, none⟩) n c', .int .i64 cnt, .int .i64 a.k, .int .i64 a.c, .int .u64 a.v, .int .u64 a.o, .int .u64 a.n, .bool a.d] 44 (0, 0)) ∧ Mm wr m p r c cs cnt a ∧ RowR wr g cs c' ∧ ¬ g = r ∧ Kept [] w wr) (fun i _ => lm - (intOf i).toNat)
  case atStart => exact ⟨0, xs, 0, Acc.zero, g, c', Nat.zero_le _, rfl, by omega, by omega, HN.out.symm, Z, M, R, hpr.2.2, T⟩
  case round =>
    clear Z M R T
    obtain ⟨k, cs, cnt, a, g, c', hk, rfl, hc0, hc1, hcs, Z, M, R, hgr, T⟩ := hrel
    by_cases hlt : k < lm
    · have hkl : k < l.length := by have := HM.out; omega
      obtain ⟨lb, off, rfl, hlb, hcell⟩ := (hl.new T) (by omega)
      have hcell := hcell k hkl
      have HO : Hid (OpM.wf l[k]) := HW.out _ (List.getElem_mem hkl)
      generalize l[k] = o at hcell HO
      have c0 : wr.cell? ⟨lb, off + k * 6, none⟩ = some (.int .i64 o.k) := hcell 0 _ rfl
      have c1 : wr.cell? ⟨lb, off + k * 6 + 1, none⟩ = some (.int .i64 o.x) := hcell 1 _ rfl
      have c2 : wr.cell? ⟨lb, off + k * 6 + 2, none⟩ = some (.int .i64 o.y) := hcell 2 _ rfl
      have c3 : wr.cell? ⟨lb, off + k * 6 + 3, none⟩ = some (.int .u64 o.h) := hcell 3 _ rfl
      have c4 : wr.cell? ⟨lb, off + k * 6 + 4, none⟩ = some (.int .u64 o.old) := hcell 4 _ rfl
      have c5 : wr.cell? ⟨lb, off + k * 6 + 5, none⟩ = some (.int .u64 o.v) := hcell 5 _ rfl
      clear hcell
      go_wp2_with fail
      refine (mdoes_any m p r c cs cnt a o _ (M.new ((Kept.refl [] _).alloc _)) (HT0.out _ (T.alloc _)) HO.out hc0 (by omega)).mono ?_
      rintro e w1 ⟨rfl, M1, K1⟩
      clear c0 c1 c2 c3 c4 c5
      have e8p : ¬ b8 = p := fun e => by rw [e] at Z; rw [M.bk.st] at Z; simp at Z
      have e8r : ¬ b8 = r := fun e => by rw [e] at Z; have h := M.bk.row; unfold Row at h; rw [h] at Z; simp at Z
      have e8m : ¬ b8 = m := fun e => by rw [e] at Z; rw [M.st] at Z; simp at Z
      have gp : ¬ g = p := R.ne M.bk.st (by decide)
      have n8 : b8 ∉ [p, r] := by simp [e8p, e8r]
      have ng : g ∉ [p, r] := by simp [gp, hgr]
      have T1 := (T.alloc _).own K1 hpr.1 hpr.2.1
      have hwr := lt_of_blk Z
      have Z1 := K1.blk (Kept.blk ((Kept.refl [] _).alloc _) Z (by simp)) n8
      have R1 := (R.kept ((Kept.refl [] _).alloc _) (by simp)).kept K1 ng
      have hpl := lt_of_blk M.bk.st
      have hrl := M.bk.row.lt
      have O1 := K1.blk (blk_alloc_new wr _) (by simp; omega)
      clear K1 Z R M T
      have q0 := cell_of_blk O1 (i := 0) rfl
      have q1 := cell_of_blk O1 (i := 1) rfl
      have q2 := cell_of_blk O1 (i := 2) rfl
      have q3 := cell_of_blk O1 (i := 3) rfl
      have q4 := cell_of_blk O1 (i := 4) rfl
      have q5 := cell_of_blk O1 (i := 5) rfl
      have p0 := cell_of_blk Z1 (i := 0) rfl
      have p1 := cell_of_blk Z1 (i := 1) rfl
      have p2 := cell_of_blk Z1 (i := 2) rfl
      have p3 := cell_of_blk Z1 (i := 3) rfl
      have p4 := cell_of_blk Z1 (i := 4) rfl
      have p5 := cell_of_blk Z1 (i := 5) rfl
      have p6 := cell_of_blk Z1 (i := 6) rfl
      have p7 := cell_of_blk Z1 (i := 7) rfl
      have p8 := cell_of_blk Z1 (i := 8) rfl
      have p9 := cell_of_blk Z1 (i := 9) rfl
      have p10 := cell_of_blk Z1 (i := 10) rfl
      have p11 := cell_of_blk Z1 (i := 11) rfl
      have p12 := cell_of_blk Z1 (i := 12) rfl
      have p13 := cell_of_blk Z1 (i := 13) rfl
      have p14 := cell_of_blk Z1 (i := 14) rfl
      go_wp2_with fail
      refine (mmodel_any c g n c' cs cnt a o w1 R1 hcs.symm (by omega) HO.out hc0 (by omega)).mono ?_
      rintro e w2 ⟨g2, c2, rfl, hn2, R2, K2⟩
      clear q0 q1 q2 q3 q4 q5 p0 p1 p2 p3 p4 p5 p6 p7 p8 p9 p10 p11 p12 p13 p14 O1
      have Z2 := K2.blk Z1 (by simp)
      have M2 := M1.new K2
      have T2 := T1.trans K2
      have hr1 := M1.bk.row.lt
      have g2r : ¬ g2 = r := by rcases hn2 with h | h <;> omega
      have g28 : ¬ g2 = b8 := R2.ne Z2 (by decide)
      have HL : Hid _ := (dsC_len cs (trO c o)).trans hcs
      have HD : Hid _ := dsN_le cnt (trO c o)
      clear hn2 Z1 M1 T1 R1 K2 hr1 gp ng hgr hwr hpl hrl
      generalize dsN cnt (trO c o) = cnt2 at M2 HD ⊢
      generalize dsC cs (trO c o) = cs2 at M2 R2 HL ⊢
      generalize dsA cs a (trO c o) = a2 at M2 ⊢
      generalize dsU cs (trO c o) = U
      generalize dsB cs (trO c o) = VB
      simp only [rmV]
      have ks := kept_sets b8 [(0, .int .i64 c.t), (1, .int .i64 c.s), (2, .int .i64 c.c), (3, .int .i64 c.h), (4, .int .i64 c.k), (5, .int .i64 c.e), (6, .int .i64 c.l), (7, .slice (some ⟨g2, 0, none⟩) n c2), (8, .int .i64 cnt2), (9, .int .i64 a2.k), (10, .int .i64 a2.c), (11, .int .u64 a2.v), (12, .int .u64 a2.o), (13, .int .u64 a2.n), (14, .bool a2.d)] w2
      have zs := blk_sets b8 [(0, .int .i64 c.t), (1, .int .i64 c.s), (2, .int .i64 c.c), (3, .int .i64 c.h), (4, .int .i64 c.k), (5, .int .i64 c.e), (6, .int .i64 c.l), (7, .slice (some ⟨g2, 0, none⟩) n c2), (8, .int .i64 cnt2), (9, .int .i64 a2.k), (10, .int .i64 a2.c), (11, .int .u64 a2.v), (12, .int .u64 a2.o), (13, .int .u64 a2.n), (14, .bool a2.d)] w2 _ Z2
      simp at zs
      have HF : Hid _ := And.intro zs (And.intro (M2.kept ks (by simpa using fun e => e8m e.symm) (by simpa using fun e => e8p e.symm) (by simpa using fun e => e8r e.symm)) (And.intro (R2.kept ks (by simpa using g28)) (T2.then ks (by simp; omega))))
      have p0 := cell_of_blk Z2 (i := 0) rfl
      have p1 := cell_of_blk Z2 (i := 1) rfl
      have p2 := cell_of_blk Z2 (i := 2) rfl
      have p3 := cell_of_blk Z2 (i := 3) rfl
      have p4 := cell_of_blk Z2 (i := 4) rfl
      have p5 := cell_of_blk Z2 (i := 5) rfl
      have p6 := cell_of_blk Z2 (i := 6) rfl
      have p7 := cell_of_blk Z2 (i := 7) rfl
      have p8 := cell_of_blk Z2 (i := 8) rfl
      have p9 := cell_of_blk Z2 (i := 9) rfl
      have p10 := cell_of_blk Z2 (i := 10) rfl
      have p11 := cell_of_blk Z2 (i := 11) rfl
      have p12 := cell_of_blk Z2 (i := 12) rfl
      have p13 := cell_of_blk Z2 (i := 13) rfl
      have p14 := cell_of_blk Z2 (i := 14) rfl
      have f8 := free_of_blk Z2
      have w2l := lt_of_blk Z2
      clear zs ks Z2 M2 R2 T2
      go_upto_region 10 with (fail)
      refine gen_world (fun W3 => W3.heap[b8]? = some (.cells #[.int .i64 c.t, .int .i64 c.s, .int .i64 c.c, .int .i64 c.h, .int .i64 c.k, .int .i64 c.e, .int .i64 c.l, .slice (some ⟨g2, 0, none⟩) n c2, .int .i64 cnt2, .int .i64 a2.k, .int .i64 a2.c, .int .u64 a2.v, .int .u64 a2.o, .int .u64 a2.n, .bool a2.d] 44 (0, 0)) ∧ Mm W3 m p r c cs2 cnt2 a2 ∧ RowR W3 g2 cs2 c2 ∧ Kept [] w W3) ?_ ?_
      · obtain ⟨y1, y2, y3, y4⟩ := HF.out
        exact ⟨Kept.blk ((Kept.refl [] _).alloc _) y1 (by simp), y2.new ((Kept.refl [] _).alloc _), y3.kept ((Kept.refl [] _).alloc _) (by simp), y4.alloc _⟩
      clear HF p0 p1 p2 p3 p4 p5 p6 p7 p8 p9 p10 p11 p12 p13 p14 f8 w2l e8p e8r e8m n8 g28
      rintro W3 ⟨Z3, M3, R3, T3⟩
      have p0 := cell_of_blk Z3 (i := 0) rfl
      have p1 := cell_of_blk Z3 (i := 1) rfl
      have p2 := cell_of_blk Z3 (i := 2) rfl
      have p3 := cell_of_blk Z3 (i := 3) rfl
      have p4 := cell_of_blk Z3 (i := 4) rfl
      have p5 := cell_of_blk Z3 (i := 5) rfl
      have p6 := cell_of_blk Z3 (i := 6) rfl
      have p7 := cell_of_blk Z3 (i := 7) rfl
      have p8 := cell_of_blk Z3 (i := 8) rfl
      have p9 := cell_of_blk Z3 (i := 9) rfl
      have p10 := cell_of_blk Z3 (i := 10) rfl
      have p11 := cell_of_blk Z3 (i := 11) rfl
      have p12 := cell_of_blk Z3 (i := 12) rfl
      have p13 := cell_of_blk Z3 (i := 13) rfl
      have p14 := cell_of_blk Z3 (i := 14) rfl
      have SM := msame_any m p r c c cs2 cnt2 a2 g2 n c2 W3 M3 R3 HL.out.symm (by omega)
      simp only [rmV] at SM
      have HE : Hid _ := And.intro Z3 (And.intro M3 (And.intro R3 T3))
      have SM : Hid _ := SM
      clear Z3 M3 R3 T3
      go_wp2_with fail
      refine Calls.mono SM.out ?_
      rintro e w4 ⟨rfl, K4⟩
      obtain ⟨Z3, M3, R3, T3⟩ := HE.out
      clear SM HE p0 p1 p2 p3 p4 p5 p6 p7 p8 p9 p10 p11 p12 p13 p14
      go_wp2
      go_roundw
      case rel => exact ⟨k + 1, cs2, cnt2, a2, g2, c2, by omega, by go_num, by have := HD.out; omega, by have := HD.out; omega, HL.out, K4.blk Z3 (by simp), M3.new K4, R3.kept K4 (by simp), g2r, T3.trans K4⟩
      case measure => simp [intOf]; omega
    · clear Z M R
      go_wp2_with fail
      refine (alive_any _ (HT0.out _ T)).mono ?_
      rintro e w5 ⟨rfl, K5⟩
      go_wp2
      go_ret
      exact ⟨rfl, T.trans K5⟩

set_option maxRecDepth 100000 in
theorem memAll_lifted (os : Os) (started : os.Started) (H : Type) (enc : TypeId × Value → H) :
    ReturnsInHanded {} Tryd.checked os 5 .any (fun w args => (Rows.memAllSpec.pre enc Tryd.prog Tryd.f5 [] false w args ∧ laidMetH Tryd.prog laid1 w) ∧ sizedMet enc Tryd.prog Tryd.f5 (OpenSpec.ofChange Rows.memAllSpec) false w args)
      (Rows.memAllSpec.post enc Tryd.prog Tryd.f5 false true false false) := by
  refine returnsInHanded_of_change_and (C := Tryd.checked) (X := fun w _ => laidMetH Tryd.prog laid1 w) (fun _ _ _ hh h => h.of_heap hh) own started (by kernel_rfl) Tryd.func5
    (ChangeSpec.witness_shaped (enc := enc) (C := Tryd.checked) (os := os) (X := fun w _ => laidMetH Tryd.prog laid1 w) false (World.doorLaid Tryd.prog 400 os) #[.agg #[.int .i64 0, .int .i64 0, .int .i64 0, .int .i64 0, .int .i64 0, .int .i64 0, .int .i64 0], .slice none 0 0, .slice none 0 0] 8 rfl (World.shaped_of_RefB (by kernel_rfl) (by kernel_rfl)) (by kernel_rfl) (by kernel_rfl) (by kernel_rfl) (door_met os _)) ?_
  intro W base args ds gs before hval0 hW _ _ hL _
  have hval : ∀ (j : Nat) t v, Tryd.f5.params[j]? = some t → args[j]? = some v → Value.okWide Tryd.prog W .any base t v := hval0
  have hW' := hW
  obtain ⟨p, q, hA0, hV, rfl, _, _⟩ := hW
  have hA : DataW.TrodAll enc Tryd.prog W 0 (fun _ => true) true Tryd.f5.params.toList args.toList ds p := hA0
  rw [Tryd.params5] at hA hval
  clear hA0 hval0
  obtain ⟨v0, vs0, d0, ds0, p0, q0, hargs, rfl, rfl, h0, r0⟩ := trodAll_cons hA
  obtain ⟨v1, vs1, d1, ds1, p1, q1, rfl, rfl, rfl, h1, r1⟩ := trodAll_cons r0
  obtain ⟨v2, vs2, d2, ds2, p2, q2, rfl, rfl, rfl, h2, r2⟩ := trodAll_cons r1
  obtain ⟨rfl, rfl, rfl⟩ := trodAll_nil r2
  obtain rfl : args = #[v0, v1, v2] := by cases args; simp_all
  obtain ⟨rfl, rfl⟩ := trodVars_none hV
  have k0 := h0
  have k1 := h1
  have k2 := h2
  simp only [List.append_nil] at hW'
  have hlt0 : ∀ x ∈ p0, x.block < W.heap.size := fun x hx => hW'.lt x (by simp [hx])
  have hlt1 : ∀ x ∈ p1, x.block < W.heap.size := fun x hx => hW'.lt x (by simp [hx])
  have hlt2 : ∀ x ∈ p2, x.block < W.heap.size := fun x hx => hW'.lt x (by simp [hx])
  obtain ⟨c0, rfl, g0⟩ := open_cfg (hval 0 23 v0 rfl rfl) h0
  obtain ⟨ao1, cap1, xs1, rfl, s1, g1, z1, n1⟩ := open_words (hval 1 37 v1 rfl rfl) h1
  obtain ⟨ao2, cap2, xs2, rfl, s2, w2⟩ := open_opms (hval 2 50 v2 rfl rfl) h2
  refine (memAll_walk W c0 g0 ao1 xs1 cap1 s1 g1 n1 ao2 xs2 cap2 s2 w2 (tab_of_laid hL)).mono fun e W' ⟨he, hg⟩ => ?_
  subst he
  have hb := hg.below (by simp)
  exact ⟨_, rfl, _, _, _, [], _, [], hW', (trodAll_cons_mk (shut_bool Tryd.underlying4 _) trodAll_mk0), (trodAll_cons_mk (Below.trod laidOut (by kernel_rfl) (of_decide_eq_true (by kernel_rfl)) k0 hb hlt0) (trodAll_cons_mk (Below.trod laidOut (by kernel_rfl) (of_decide_eq_true (by kernel_rfl)) k1 hb hlt1) (trodAll_cons_mk (Below.trod laidOut (by kernel_rfl) (of_decide_eq_true (by kernel_rfl)) k2 hb hlt2) trodAll_mk0))), rfl, hb.frame _, fun h => by cases h⟩

theorem memAll_over : Rows.MemAllSaid :=
  OpenClaim.holds_of_wide 5 Tryd.f5 rfl rfl rfl rfl rfl rfl rfl ⟨rfl, rfl, rfl, rfl, rfl⟩ rfl rfl rfl rfl rfl (by kernel_rfl) Tryd.func5 (by kernel_rfl)
    (of_decide_eq_true (by kernel_rfl)) (by unfold Func.isWrapper; first | (rw [if_pos (by decide +kernel)]; kernel_rfl) | (rw [if_neg (by decide +kernel)]; exact ⟨rfl, rfl⟩))
    (fun os started H enc _ => memAll_lifted os started H enc)

theorem memAll_holds : Rows.MemAllCardSaid :=
  Claim7.holds_tied_plain_at .later [] [.data] true (true, "8fbe9499f1103e4c4dda2993993749ae3f6b66e8777a4b39f9f429556d4835eb") false
    memAll_over (fun _ h => by cases h) (by kernel_rfl) (fun _ h => by cases h) memAll_row_tie rfl ⟨rfl, rfl⟩ (by kernel_rfl) rfl
    (fun f fn hf hfn => by
      obtain rfl : f = 5 := Option.some.inj ((show Tryd.prog.funcNamed "stepstone/stepstonelaw05.MemAll" = some 5 by kernel_rfl).symm.trans hf) |>.symm
      obtain rfl : fn = Tryd.f5 := (Option.some.inj (Tryd.func5.symm.trans hfn)).symm
      exact ⟨by kernel_rfl, fun j t ht => by
          rw [Tryd.params5] at ht
          rcases j with _ | j
          · have : t = 23 := by simpa using ht.symm
            subst this; exact (show Tryd.prog.wantsStandIn 23 = false by kernel_rfl)
          rcases j with _ | j
          · have : t = 37 := by simpa using ht.symm
            subst this; exact (show Tryd.prog.wantsStandIn 37 = false by kernel_rfl)
          rcases j with _ | j
          · have : t = 50 := by simpa using ht.symm
            subst this; exact (show Tryd.prog.wantsStandIn 50 = false by kernel_rfl)
          simp at ht⟩)
    (by kernel_rfl)
#print axioms memAll_holds
end Go.Proofs.YtahdhekbancapaaDoor
