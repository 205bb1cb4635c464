/-
  For all cells and every script of accesses: each tells what the document says, and so are the cells, the count of accesses and the last one behind it; the law BankAll answers true, and the arguments read as they did.
  Conditions: none.
-/
import Derived.Test.YtmigfkkigfhjkaaModel
import Derived.ProofKit
import Derived.Deep.RegionHeld3
import Derived.SizedLaws
import Derived.Carry
namespace Go.Proofs.Ytmigfkkigfhjkaa
open Go.ChangeShapes Go.WideShapes Go.ChangeAt Go.RowKit
open Go.Deep

theorem dsC_len (xs : List Int) (o : OpV) : (dsC xs o).length = xs.length := by
  unfold dsC clV; split
  · split
    · rw [List.length_set]
    · rfl
  · rfl
theorem dsN_le (cnt : Int) (o : OpV) : cnt ≤ dsN cnt o ∧ dsN cnt o ≤ cnt + 1 := by unfold dsN; split <;> omega
theorem cells_op : Try.prog.cellsOf 34 = 5 := by kernel_rfl
theorem open_ops {H : Type} {enc : TypeId × Value → H} {w : World} {r : Reach} {b0 : Nat} {v : Value} {d : DataW H} {p : List MemPlace} (hv : Value.okWide Try.prog w r b0 23 v) (h : DataW.Trod enc Try.prog w 0 (fun _ => true) true 23 v d p) :
    ∃ ao cap xs, v = .slice ao (List.length xs) cap ∧ SlOf 5 OpV.cells w ao xs ∧ True := by
  obtain ⟨ao, cap, xs, h1, h2, _⟩ := open_slice_of (ks := [.int .i64, .int .i64, .int .u64, .int .u64, .int .u64]) OpV.cells (fun _ => True) Try.underlying23 flat_op cells_op (by decide)
    (fun cs hF => by obtain ⟨o, ho⟩ := op_cells hF; exact ⟨o, ho, trivial⟩) hv h
  exact ⟨ao, cap, xs, h1, h2, trivial⟩
set_option maxRecDepth 100000 in
set_option maxHeartbeats 4000000 in
theorem bankAll_walk (w : World) (ao : Option Addr) (xs : List Int) (cap : Nat) (lo : Option Addr) (l : List OpV) (lc : Nat) (hs : Sl w ao xs) (_hg : ∀ x ∈ xs, isWord x) (hb : xs.length ≤ 17592186044415) (hc : ao = none → cap = 0) (hl : SlOf 5 OpV.cells w lo l) :
    Calls Try.prog 3 #[.slice ao xs.length cap, .slice lo l.length lc] w fun e w' => e = .returned (.bool true) ∧ Kept [] w w' := by
  obtain ⟨n, Hn⟩ : ∃ n, n = xs.length := ⟨_, rfl⟩
  obtain ⟨m, Hm⟩ : ∃ m, m = l.length := ⟨_, rfl⟩
  have HN : Hid _ := Hn
  have HM : Hid _ := Hm
  rw [← Hn] at hb
  rw [← Hn, ← Hm]
  clear Hn Hm
  by_cases h0 : 50 < n
  · have t1 : decide ((50 : Int) < (n : Int)) = true := by rw [decide_eq_true_iff]; omega
    go_enter Try.func3, Try.ntmps3
    go_wp2_with fail
    refine (alive_any _).mono ?_
    rintro e w2 ⟨rfl, K2⟩
    go_wp2
    go_ret
    exact ⟨rfl, K2⟩
  have t1 : decide ((50 : Int) < (n : Int)) = false := by rw [decide_eq_false_iff_not]; omega
  by_cases hm0 : 100 < m
  · have t2 : decide ((100 : Int) < (m : Int)) = true := by rw [decide_eq_true_iff]; omega
    go_enter Try.func3, Try.ntmps3
    go_wp2_with fail
    refine (alive_any _).mono ?_
    rintro e w2 ⟨rfl, K2⟩
    go_wp2
    go_ret
    exact ⟨rfl, K2⟩
  have t2 : decide ((100 : Int) < (m : Int)) = false := by rw [decide_eq_false_iff_not]; omega
  go_enter Try.func3, Try.ntmps3
  go_wp2_with fail
  have of1 := of_any ao xs cap w hs (by rw [← HN.out]; exact hb)
  rw [← HN.out] at of1
  refine of1.mono ?_
  rintro e w1 ⟨p, rfl, hp, B1, K1⟩
  clear of1
  obtain ⟨r, hr⟩ : ∃ r, r = w.heap.size := ⟨_, rfl⟩
  rw [← hr] at B1
  go_wp2_with fail
  have rof1 := rof_any ao xs cap w1 (hs.new K1) hc (by rw [← HN.out]; exact hb)
  rw [← HN.out] at rof1
  refine rof1.mono ?_
  rintro e w2 ⟨g, c, rfl, hg, R2, K2⟩
  clear rof1
  have B2 := B1.kept K2 (by simp) (by simp)
  have T2 := K1.trans K2
  have hgr : ¬ g = r := by have := B1.row.lt; omega
  have hpr : w.heap.size ≤ p ∧ w.heap.size ≤ r := by omega
  obtain ⟨b6, hb6⟩ : ∃ b6, b6 = w2.heap.size := ⟨_, rfl⟩
  have hb6s : w.heap.size ≤ b6 := by have := T2.size; omega
  simp only [rbV]
  go_upto_region 6 with (fail)
  refine gen_world (fun W => W.heap[b6]? = some (.cells #[.slice (some ⟨g, 0, none⟩) n c, .int .i64 0, .int .i64 Acc.zero.k, .int .i64 Acc.zero.c, .int .u64 Acc.zero.v, .int .u64 Acc.zero.o, .int .u64 Acc.zero.n, .bool Acc.zero.d] 31 (0, 0)) ∧ Bk W p r xs 0 Acc.zero ∧ RowR W g xs c ∧ Kept [] w W) ?_ ?_
  · rw [hb6]
    exact ⟨blk_alloc_new _ _, B2.kept ((Kept.refl [] _).alloc _) (by simp) (by simp), R2.kept ((Kept.refl [] _).alloc _) (by simp), T2.alloc _⟩
  clear B1 B2 R2 K1 K2 T2 hg hr
  rw [← hb6]
  clear hb6
  rintro W ⟨Z, B, R, T⟩
  go_wp2
  go_loopw [31] (fun i wr => ∃ (k : Nat) (cs : List Int) (cnt : Int) (a : Acc) (g c : Nat), k ≤ m ∧ i = .int .i64 k ∧ 0 ≤ cnt ∧ cnt ≤ k ∧ cs.length = n ∧ wr.heap[b6]? = some (.cells #[.slice (some ⟨g, 0, none⟩) n c, .int .i64 cnt, .int .i64 a.k, .int .i64 a.c, .int .u64 a.v, .int .u64 a.o, .int .u64 a.n, .bool a.d] 31 (0, 0)) ∧ Bk wr p r cs cnt a ∧ RowR wr g cs c ∧ ¬ g = r ∧ Kept [] w wr) (fun i _ => m - (intOf i).toNat)
  case atStart => exact ⟨0, xs, 0, Acc.zero, g, c, Nat.zero_le _, rfl, by omega, by omega, HN.out.symm, Z, B, R, hgr, T⟩
  case round =>
    clear Z B R T
    obtain ⟨k, cs, cnt, a, g, c, hk, rfl, hc0, hc1, hcs, Z, B, R, hgr, T⟩ := hrel
    by_cases hlt : k < m
    · have hkl : k < l.length := by have := HM.out; omega
      obtain ⟨lb, off, rfl, hlb, hcell⟩ := (hl.new T) (by omega)
      have hcell := hcell k hkl
      generalize l[k] = o at hcell
      have c0 : wr.cell? ⟨lb, off + k * 5, none⟩ = some (.int .i64 o.k) := hcell 0 _ rfl
      have c1 : wr.cell? ⟨lb, off + k * 5 + 1, none⟩ = some (.int .i64 o.c) := hcell 1 _ rfl
      have c2 : wr.cell? ⟨lb, off + k * 5 + 2, none⟩ = some (.int .u64 o.via) := hcell 2 _ rfl
      have c3 : wr.cell? ⟨lb, off + k * 5 + 3, none⟩ = some (.int .u64 o.old) := hcell 3 _ rfl
      have c4 : wr.cell? ⟨lb, off + k * 5 + 4, none⟩ = some (.int .u64 o.v) := hcell 4 _ rfl
      clear hcell
      go_wp2_with fail
      refine (does_any p r cs cnt a o _ (B.kept ((Kept.refl [] _).alloc _) (by simp) (by simp)) hc0 (by omega)).mono ?_
      rintro e w1 ⟨rfl, B1, K1⟩
      clear c0 c1 c2 c3 c4
      have e6p : ¬ b6 = p := fun e => by rw [e] at Z; rw [B.st] at Z; simp at Z
      have e6r : ¬ b6 = r := fun e => by rw [e] at Z; have h := B.row; unfold Row at h; rw [h] at Z; simp at Z
      have gp : ¬ g = p := R.ne B.st (by decide)
      have n6 : b6 ∉ [p, r] := by simp [e6p, e6r]
      have ng : g ∉ [p, r] := by simp [gp, hgr]
      have T1 := (T.alloc _).own K1 hpr.1 hpr.2
      have hwr := lt_of_blk Z
      have Z1 := K1.blk (Kept.blk ((Kept.refl [] _).alloc _) Z (by simp)) n6
      have R1 := (R.kept ((Kept.refl [] _).alloc _) (by simp)).kept K1 ng
      have hpl := lt_of_blk B.st
      have hrl := B.row.lt
      have O1 := K1.blk (blk_alloc_new wr _) (by simp; omega)
      clear K1 Z R B T
      have q0 := cell_of_blk O1 (i := 0) rfl
      have q1 := cell_of_blk O1 (i := 1) rfl
      have q2 := cell_of_blk O1 (i := 2) rfl
      have q3 := cell_of_blk O1 (i := 3) rfl
      have q4 := cell_of_blk O1 (i := 4) rfl
      have p0 := cell_of_blk Z1 (i := 0) rfl
      have p1 := cell_of_blk Z1 (i := 1) rfl
      have p2 := cell_of_blk Z1 (i := 2) rfl
      have p3 := cell_of_blk Z1 (i := 3) rfl
      have p4 := cell_of_blk Z1 (i := 4) rfl
      have p5 := cell_of_blk Z1 (i := 5) rfl
      have p6 := cell_of_blk Z1 (i := 6) rfl
      have p7 := cell_of_blk Z1 (i := 7) rfl
      go_wp2_with fail
      have hm := model_any g cs c cnt a o w1 R1 (by rw [hcs]; exact hb) hc0 (by omega)
      rw [hcs] at hm
      refine hm.mono ?_
      rintro e w2 ⟨g2, c2, rfl, hn2, R2, K2⟩
      clear hm q0 q1 q2 q3 q4 p0 p1 p2 p3 p4 p5 p6 p7 O1
      have Z2 := K2.blk Z1 (by simp)
      have B2 := B1.kept K2 (by simp) (by simp)
      have T2 := T1.trans K2
      have hw1 := lt_of_blk B1.st
      have hr1 := B1.row.lt
      have g2r : ¬ g2 = r := by rcases hn2 with h | h <;> omega
      have g26 : ¬ g2 = b6 := R2.ne Z2 (by decide)
      have HL : Hid _ := (dsC_len cs o).trans hcs
      have HD : Hid _ := dsN_le cnt o
      clear hn2 Z1 B1 T1 R1 K2 hw1 hr1 gp ng hgr hwr hpl hrl
      generalize dsN cnt o = cnt2 at B2 HD ⊢
      generalize dsC cs o = cs2 at B2 R2 HL ⊢
      generalize dsA cs a o = a2 at B2 ⊢
      generalize dsU cs o = U
      generalize dsB cs o = V
      simp only [rbV]
      have ks := kept_sets b6 [(0, .slice (some ⟨g2, 0, none⟩) n c2), (1, .int .i64 cnt2), (2, .int .i64 a2.k), (3, .int .i64 a2.c), (4, .int .u64 a2.v), (5, .int .u64 a2.o), (6, .int .u64 a2.n), (7, .bool a2.d)] w2
      have zs := blk_sets b6 [(0, .slice (some ⟨g2, 0, none⟩) n c2), (1, .int .i64 cnt2), (2, .int .i64 a2.k), (3, .int .i64 a2.c), (4, .int .u64 a2.v), (5, .int .u64 a2.o), (6, .int .u64 a2.n), (7, .bool a2.d)] w2 _ Z2
      simp at zs
      have HF : Hid _ := And.intro zs (And.intro (B2.kept ks (by simpa using fun e => e6p e.symm) (by simpa using fun e => e6r e.symm)) (And.intro (R2.kept ks (by simpa using g26)) (T2.then ks (by simp; omega))))
      have p0 := cell_of_blk Z2 (i := 0) rfl
      have p1 := cell_of_blk Z2 (i := 1) rfl
      have p2 := cell_of_blk Z2 (i := 2) rfl
      have p3 := cell_of_blk Z2 (i := 3) rfl
      have p4 := cell_of_blk Z2 (i := 4) rfl
      have p5 := cell_of_blk Z2 (i := 5) rfl
      have p6 := cell_of_blk Z2 (i := 6) rfl
      have p7 := cell_of_blk Z2 (i := 7) rfl
      have f6 := free_of_blk Z2
      have w2l := lt_of_blk Z2
      clear zs ks Z2 B2 R2 T2
      go_wp2_with fail
      refine gen_world (fun W3 => W3.heap[b6]? = some (.cells #[.slice (some ⟨g2, 0, none⟩) n c2, .int .i64 cnt2, .int .i64 a2.k, .int .i64 a2.c, .int .u64 a2.v, .int .u64 a2.o, .int .u64 a2.n, .bool a2.d] 31 (0, 0)) ∧ Bk W3 p r cs2 cnt2 a2 ∧ RowR W3 g2 cs2 c2 ∧ Kept [] w W3) ?_ ?_
      · obtain ⟨y1, y2, y3, y4⟩ := HF.out
        exact ⟨Kept.blk ((Kept.refl [] _).alloc _) y1 (by simp), y2.kept ((Kept.refl [] _).alloc _) (by simp) (by simp), y3.kept ((Kept.refl [] _).alloc _) (by simp), y4.alloc _⟩
      clear HF p0 p1 p2 p3 p4 p5 p6 p7 f6 w2l e6p e6r n6 g26
      rintro W3 ⟨Z3, B3, R3, T3⟩
      have hlen : cs2.length = n := HL.out
      have CN : Hid (∀ W' : World, Kept [] W3 W' → Calls Try.prog 15 #[.pointer (some ⟨p, 0, none⟩)] W' fun e w' => ∃ q, e = .returned (.slice (some ⟨q, 0, none⟩) n n) ∧ Row w' q cs2 ∧ Kept [] W3 w') := by
        intro W' k'
        have h := cells_any p r cs2 cnt2 a2 W' (B3.kept k' (by simp) (by simp))
        rw [hlen] at h
        exact h.mono fun e w' ⟨h1, h2, h3⟩ => ⟨_, h1, h2, k'.trans h3⟩
      have SN : Hid (∀ (W' : World) (q : Nat), Kept [] W3 W' → Row W' q cs2 → Calls Try.prog 14 #[.slice (some ⟨q, 0, none⟩) n n, .slice (some ⟨g2, 0, none⟩) n c2] W' fun e w' => e = .returned (.bool true) ∧ Kept [] W3 w') := by
        intro W' q k' hq
        have h := same_eq (some ⟨q, 0, none⟩) (some ⟨g2, 0, none⟩) cs2 n c2 W' hq.sl (R3.kept k' (by simp)).sl (by rw [hlen]; exact hb)
        rw [hlen] at h
        exact h.mono fun e w' ⟨h1, h2⟩ => ⟨h1, k'.trans h2⟩
      have NN : Hid (∀ W' : World, Kept [] W3 W' → Calls Try.prog 16 #[.pointer (some ⟨p, 0, none⟩)] W' fun e w' => e = .returned (.int .i64 cnt2) ∧ w' = W') := fun W' k' => count_any p r cs2 cnt2 a2 W' (B3.kept k' (by simp) (by simp))
      have LN : Hid (∀ W' : World, Kept [] W3 W' → Calls Try.prog 17 #[.pointer (some ⟨p, 0, none⟩)] W' fun e w' => e = .returned (.agg #[.int .i64 a2.k, .int .i64 a2.c, .int .u64 a2.v, .int .u64 a2.o, .int .u64 a2.n, .bool a2.d]) ∧ Kept [] W3 w') :=
        fun W' k' => (last_any p r cs2 cnt2 a2 W' (B3.kept k' (by simp) (by simp))).mono fun e w' ⟨h1, h2⟩ => ⟨h1, k'.trans h2⟩
      have HS : Hid (∀ W' : World, Kept [] W3 W' → (W'.cell? ⟨b6, 0, none⟩ = some (.slice (some ⟨g2, 0, none⟩) n c2) ∧ W'.cell? ⟨b6, 1, none⟩ = some (.int .i64 cnt2) ∧ W'.cell? ⟨b6, 2, none⟩ = some (.int .i64 a2.k) ∧ W'.cell? ⟨b6, 3, none⟩ = some (.int .i64 a2.c) ∧ W'.cell? ⟨b6, 4, none⟩ = some (.int .u64 a2.v) ∧ W'.cell? ⟨b6, 5, none⟩ = some (.int .u64 a2.o) ∧ W'.cell? ⟨b6, 6, none⟩ = some (.int .u64 a2.n) ∧ W'.cell? ⟨b6, 7, none⟩ = some (.bool a2.d)) ∧ Kept [] W3 W') := by
        intro W' k'
        have z := k'.blk Z3 (by simp)
        exact ⟨⟨cell_of_blk z (i := 0) rfl, cell_of_blk z (i := 1) rfl, cell_of_blk z (i := 2) rfl, cell_of_blk z (i := 3) rfl, cell_of_blk z (i := 4) rfl, cell_of_blk z (i := 5) rfl, cell_of_blk z (i := 6) rfl, cell_of_blk z (i := 7) rfl⟩, k'⟩
      have HE : Hid _ := And.intro Z3 (And.intro B3 (And.intro R3 T3))
      clear hlen Z3 B3 R3 T3
      go_region_held3 (fun W' => (W'.cell? ⟨b6, 0, none⟩ = some (.slice (some ⟨g2, 0, none⟩) n c2) ∧ W'.cell? ⟨b6, 1, none⟩ = some (.int .i64 cnt2) ∧ W'.cell? ⟨b6, 2, none⟩ = some (.int .i64 a2.k) ∧ W'.cell? ⟨b6, 3, none⟩ = some (.int .i64 a2.c) ∧ W'.cell? ⟨b6, 4, none⟩ = some (.int .u64 a2.v) ∧ W'.cell? ⟨b6, 5, none⟩ = some (.int .u64 a2.o) ∧ W'.cell? ⟨b6, 6, none⟩ = some (.int .u64 a2.n) ∧ W'.cell? ⟨b6, 7, none⟩ = some (.bool a2.d)) ∧ Kept [] W3 W')
        (first | exact HS.out _ (by assumption) | exact HS.out _ (Kept.refl _ _).drew)
        (first
          | (go_at_call 15; refine (CN.out _ (by first | assumption | exact (Kept.refl _ _).drew)).mono ?_; rintro e w5 ⟨q, rfl, Q5, K5⟩)
          | (go_at_call 14; refine (SN.out _ _ (by assumption) (by assumption)).mono ?_; rintro e w6 ⟨rfl, K6⟩)
          | (go_at_call 16; refine (NN.out _ (by assumption)).mono ?_; rintro e w7 ⟨rfl, rfl⟩)
          | (go_at_call 17; refine (LN.out _ (by assumption)).mono ?_; rintro e w8 ⟨rfl, K8⟩))
      all_goals
        obtain ⟨Z3, B3, R3, T3⟩ := HE.out
        have KF : Kept [] W3 w8 := by assumption
        clear CN SN NN LN HS HE
        go_wp2
        go_roundw
        case rel => exact ⟨k + 1, cs2, cnt2, a2, g2, c2, by omega, by go_num, by have := HD.out; omega, by have := HD.out; omega, HL.out, KF.blk Z3 (by simp), B3.kept KF (by simp) (by simp), R3.kept KF (by simp), g2r, T3.trans KF⟩
        case measure => simp [intOf]; omega
    · clear Z B R
      go_wp2_with fail
      refine (alive_any _).mono ?_
      rintro e w5 ⟨rfl, K5⟩
      go_wp2
      go_ret
      exact ⟨rfl, T.trans K5⟩

theorem bankAll_own : ownKnob Try.prog.godebug = none := by kernel_rfl
theorem bankAll_laidOut : laidOutB Try.prog = true := by kernel_rfl
set_option maxRecDepth 100000 in
theorem bankAll_lifted (os : Os) (started : os.Started) (H : Type) (enc : TypeId × Value → H) :
    ReturnsInHanded {} Try.checked os 3 .any (Rows.bankAllSpec.pre6 enc Try.prog Try.f3 Rows.bankAllRow.domain false) (Rows.bankAllSpec.post enc Try.prog Try.f3 false true false false) := by
  refine returnsInHanded_of_change_sized (C := Try.checked) bankAll_own started (by kernel_rfl) Try.func3
    (ChangeSpec.witness6 (enc := enc) (C := Try.checked) false ⟨#[], #[.slice none 0 0, .slice none 0 0], []⟩ 8 (by kernel_rfl) (by kernel_rfl) (by kernel_rfl) (by kernel_rfl)) ?_
  intro W base args ds gs before hval0 hW _ hsz0 _
  have hsz : (DataW.weightsEach Try.prog (Try.f3.params.toList ++ Rows.bankAllSpec.plain.varTypes Try.prog) (ds ++ gs)).all (· ≤ reachBytes) = true := hsz0
  clear hsz0
  have hval : ∀ (j : Nat) t v, Try.f3.params[j]? = some t → args[j]? = some v → Value.okWide Try.prog W .any base t v := hval0
  have hW' := hW
  obtain ⟨p, q, hA0, hV, rfl, _, _⟩ := hW
  have hA : DataW.TrodAll enc Try.prog W 0 (fun _ => true) true Try.f3.params.toList args.toList ds p := hA0
  rw [Try.params3] at hA hval hsz
  clear hA0 hval0
  obtain ⟨v0, vs0, d0, ds0, p0, q0, hargs, rfl, rfl, h0, r0⟩ := trodAll_cons hA
  obtain ⟨v1, vs1, d1, ds1, p1, q1, rfl, rfl, rfl, h1, r1⟩ := trodAll_cons r0
  obtain ⟨rfl, rfl, rfl⟩ := trodAll_nil r1
  obtain rfl : args = #[v0, v1] := by cases args; simp_all
  obtain ⟨rfl, rfl⟩ := trodVars_none hV
  have k0 := h0
  have k1 := h1
  simp only [List.append_nil] at hW'
  have hlt0 : ∀ x ∈ p0, x.block < W.heap.size := fun x hx => hW'.lt x (by simp [hx])
  have hlt1 : ∀ x ∈ p1, x.block < W.heap.size := fun x hx => hW'.lt x (by simp [hx])
  obtain ⟨ao0, cap0, xs0, rfl, s0, g0, z0, n0⟩ := open_words (hval 0 22 v0 rfl rfl) h0
  obtain ⟨ao1, cap1, xs1, rfl, s1, z1⟩ := open_ops (hval 1 23 v1 rfl rfl) h1
  have b0 := len_words hsz (j := 0) rfl (fun el sp e => by subst e; rfl) z0
  refine (bankAll_walk W ao0 xs0 cap0 ao1 xs1 cap1 s0 g0 b0 n0 s1).mono fun e W' ⟨he, hg⟩ => ?_
  subst he
  have hb := hg.below (by simp)
  exact ⟨_, rfl, _, _, _, [], _, [], hW', (trodAll_cons_mk (shut_bool Try.underlying4 _) trodAll_mk0), (trodAll_cons_mk (Below.trod bankAll_laidOut (by kernel_rfl) (of_decide_eq_true (by kernel_rfl)) k0 hb hlt0) (trodAll_cons_mk (Below.trod bankAll_laidOut (by kernel_rfl) (of_decide_eq_true (by kernel_rfl)) k1 hb hlt1) trodAll_mk0)), rfl, hb.frame _, fun h => by cases h⟩

theorem bankAll_holds : Rows.BankAllSaid :=
  OpenClaim.holds_of_wide 3 Try.f3 rfl rfl rfl rfl rfl rfl rfl ⟨rfl, rfl, rfl, rfl, rfl⟩ rfl rfl rfl rfl rfl (by kernel_rfl) Try.func3 (by kernel_rfl)
    (of_decide_eq_true (by kernel_rfl)) (by unfold Func.isWrapper; first | (rw [if_pos (by decide +kernel)]; kernel_rfl) | (rw [if_neg (by decide +kernel)]; exact ⟨rfl, rfl⟩))
    (fun os started H enc _ => bankAll_lifted os started H enc)
#print axioms bankAll_holds
end Go.Proofs.Ytmigfkkigfhjkaa
