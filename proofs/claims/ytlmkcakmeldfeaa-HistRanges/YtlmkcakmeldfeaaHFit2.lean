/-
  Events: do a Range's keys fit; does it leave out one?
-/
import Derived.Test.YtlmkcakmeldfeaaHFit
namespace Go.Proofs.Ytlmkcakmeldfeaa.Q
set_option maxRecDepth 100000
open Go.RowKit
open Go.Deep
/-- An op in its own block. -/
def OB (w : World) (b : Nat) (o : OpQ) : Prop := w.heap[b]? = some (.cells #[.int .i64 o.d, .int .u64 o.k, .int .u64 o.v, .int .i64 o.n, .int .i64 o.t] 43 (0, 0))
theorem OB.kept {l : List Nat} {w w' : World} {b : Nat} {o : OpQ} (h : OB w b o) (k : Kept l w w') (hn : b ∉ l) : OB w' b o := k.blk h hn
theorem OB.new (w : World) (o : OpQ) : OB (w.alloc (.cells #[.int .i64 o.d, .int .u64 o.k, .int .u64 o.v, .int .i64 o.n, .int .i64 o.t] 43)) w.heap.size o := blk_alloc_new _ _
theorem OB.c0 {w : World} {b : Nat} {o : OpQ} (h : OB w b o) : w.cell? ⟨b, 0, none⟩ = some (.int .i64 o.d) := cell_of_blk h (i := 0) rfl
theorem OB.c1 {w : World} {b : Nat} {o : OpQ} (h : OB w b o) : w.cell? ⟨b, 1, none⟩ = some (.int .u64 o.k) := cell_of_blk h (i := 1) rfl
theorem OB.c2 {w : World} {b : Nat} {o : OpQ} (h : OB w b o) : w.cell? ⟨b, 2, none⟩ = some (.int .u64 o.v) := cell_of_blk h (i := 2) rfl
theorem OB.c3 {w : World} {b : Nat} {o : OpQ} (h : OB w b o) : w.cell? ⟨b, 3, none⟩ = some (.int .i64 o.n) := cell_of_blk h (i := 3) rfl
/-- Does the key at place i fit? -/
def okI (a b : Int) (ks : List Int) (i : Nat) : Bool := !(decide (ks.getD i 0 < a)) && (!(decide (b < ks.getD i 0)) && !(decide (0 < i) && decide (ks.getD i 0 ≤ ks.getD (i - 1) 0)))
def kfB (e : Ev) : Bool := decide ((e.ks.length : Int) ≤ max e.op.n 0) && (List.range e.ks.length).all (okI e.op.k e.op.v e.ks)
theorem kf_no {e : Ev} (h : ¬ (e.ks.length : Int) ≤ max e.op.n 0) : kfB e = false := by unfold kfB; rw [decide_eq_false h]; rfl
theorem kf_out {e : Ev} {i : Nat} (h : i < e.ks.length) (h2 : okI e.op.k e.op.v e.ks i = false) : kfB e = false := by
  unfold kfB
  rw [show (List.range e.ks.length).all (okI e.op.k e.op.v e.ks) = false from List.all_eq_false.2 ⟨i, by simpa using h, by simp [h2]⟩, Bool.and_false]
theorem kf_yes {e : Ev} (h : (e.ks.length : Int) ≤ max e.op.n 0) (h2 : ∀ i, i < e.ks.length → okI e.op.k e.op.v e.ks i = true) : kfB e = true := by
  unfold kfB
  rw [decide_eq_true h, Bool.true_and]
  exact List.all_eq_true.2 (fun i hi => h2 i (by simpa using hi))
set_option maxHeartbeats 4000000 in
theorem keysFit_any (e : Ev) (w : World) (hs : Sl w e.ka e.ks) (hl : e.ks.length ≤ 1000) : Calls Try.prog 37 #[.agg (evA e)] w fun o w' => o = .returned (.bool (kfB e)) ∧ Kept [] w w' := by
  have K := (Kept.refl [] w).alloc (.cells (evA e) 53)
  have Z := EB.new 53 w e
  go_enter Try.func37, Try.ntmps37
  go_upto_region 1 with (fail)
  obtain ⟨B, hB⟩ : ∃ B, B = w.heap.size := ⟨_, rfl⟩
  rw [← hB] at Z ⊢
  refine gen_world (fun W => EB 53 W B e ∧ Kept [] w W) ⟨Z, K⟩ ?_
  clear Z K hB
  rintro W ⟨Z, K⟩
  have c1 := Z.c1
  have c2 := Z.c2
  have c3 := Z.c3
  have c4 := Z.c4
  have c5 := Z.c5
  have c13 := Z.c13
  have lt := Z.lt
  clear Z
  go_region
  go_upto_region 2 with (fail)
  obtain ⟨C, hC⟩ : ∃ C, C = W.heap.size := ⟨_, rfl⟩
  have Y := OB.new W e.op
  rw [← hC] at Y ⊢
  refine gen_world (fun V => OB V C e.op ∧ Kept [] w V) ⟨Y, (K.alloc _).drew⟩ ?_
  clear c1 c2 c3 c4 c5 c13 lt Y K hC
  rintro V ⟨Y, K⟩
  have y3 := Y.c3
  have HS : Hid (Sl V e.ka e.ks) := hs.new K
  have NO : Hid _ := @kf_no e
  have OUT : Hid _ := fun i => @kf_out e i
  have YES : Hid _ := @kf_yes e
  clear hs
  obtain ⟨n, hn⟩ : ∃ n, n = e.ks.length := ⟨_, rfl⟩
  have HN : Hid _ := hn
  rw [← hn] at hl NO OUT YES ⊢
  clear hn
  rcases Int.lt_trichotomy e.op.n 0 with q1 | q1 | q1
  · by_cases q2 : n = 0
    · subst q2
      go_wp2
      go_loopw [20] (fun vi wr => vi = .int .i64 0 ∧ Kept [] V wr) (fun _ _ => 0)
      case atStart => exact ⟨rfl, Kept.refl _ _⟩
      case round =>
        obtain ⟨rfl, K2⟩ := hrel
        go_wp2
        go_ret
        exact ⟨by rw [YES.out (by omega) (fun j hj => absurd hj (by omega))]; rfl, K.trans K2⟩
    · have q3 : 0 < n := by omega
      go_wp2
      go_ret
      exact ⟨by rw [NO.out (by omega)]; rfl, K⟩
  · by_cases q2 : n = 0
    · subst q2
      go_wp2
      go_loopw [20] (fun vi wr => vi = .int .i64 0 ∧ Kept [] V wr) (fun _ _ => 0)
      case atStart => exact ⟨rfl, Kept.refl _ _⟩
      case round =>
        obtain ⟨rfl, K2⟩ := hrel
        go_wp2
        go_ret
        exact ⟨by rw [YES.out (by omega) (fun j hj => absurd hj (by omega))]; rfl, K.trans K2⟩
    · have q3 : 0 < n := by omega
      go_wp2
      go_ret
      exact ⟨by rw [NO.out (by omega)]; rfl, K⟩
  · by_cases q2 : (n : Int) ≤ e.op.n
    · go_wp2
      go_loopw [20] (fun vi wr => ∃ i : Nat, i ≤ n ∧ vi = .int .i64 i ∧ Hid (∀ j, j < i → okI e.op.k e.op.v e.ks j = true) ∧ Kept [] V wr) (fun vi _ => n - (intOf vi).toNat)
      case atStart => exact ⟨0, Nat.zero_le _, rfl, (fun j hj => absurd hj (by omega)), Kept.refl _ _⟩
      case round =>
        obtain ⟨i, hi, rfl, E, K2⟩ := hrel
        have Y2 := Y.kept K2 (by simp)
        have y1 := Y2.c1
        have y2 := Y2.c2
        have y3 := Y2.c3
        clear Y2
        by_cases hlt : i < n
        · obtain ⟨b1, o1, e1, _, c0⟩ := (HS.out.new K2).cell (i := i) (by have := HN.out; omega)
          rw [e1]
          have PR : Hid (0 < i → wr.cell? ⟨b1, o1 + (i - 1), none⟩ = some (.int .u64 (e.ks.getD (i - 1) 0))) := fun h => by
            obtain ⟨b2, o2, e2, _, d0⟩ := (HS.out.new K2).cell (i := i - 1) (by have := HN.out; omega)
            rw [e1] at e2; cases e2; exact d0
          have HO : Hid (okI e.op.k e.op.v e.ks i = (!(decide (e.ks.getD i 0 < e.op.k)) && (!(decide (e.op.v < e.ks.getD i 0)) && !(decide (0 < i) && decide (e.ks.getD i 0 ≤ e.ks.getD (i - 1) 0))))) := rfl
          have ST : Hid (okI e.op.k e.op.v e.ks i = true → ∀ j, j < i + 1 → okI e.op.k e.op.v e.ks j = true) := fun h j hj => by
            by_cases q : j = i
            · rw [q]; exact h
            · exact E.out j (by omega)
          generalize e.ks.getD i 0 = x at c0 HO PR
          generalize hz : e.ks.getD (i - 1) 0 = z at HO PR
          clear hz E
          by_cases q1 : x < e.op.k
          · have Q1 : Hid _ := q1
            go_wp2
            go_ret
            exact ⟨by rw [OUT.out i hlt (by rw [HO.out, decide_eq_true Q1.out]; rfl)]; rfl, K.trans K2⟩
          · have Q1 : Hid _ := q1
            by_cases q2 : e.op.v < x
            · have Q2 : Hid _ := q2
              go_wp2
              go_ret
              exact ⟨by rw [OUT.out i hlt (by rw [HO.out, decide_eq_false Q1.out, decide_eq_true Q2.out]; rfl)]; rfl, K.trans K2⟩
            · have Q2 : Hid _ := q2
              by_cases q0 : 0 < i
              · have Q0 : Hid _ := q0
                obtain ⟨p, rfl⟩ : ∃ p, i = p + 1 := ⟨i - 1, by omega⟩
                have d0 := PR.out q0
                rw [Nat.add_sub_cancel] at d0
                clear PR q0
                have q0 : (0 : Int) < (p : Int) + 1 := by omega
                have z1 : (p : Int) < (n : Int) := by omega
                by_cases q3 : x ≤ z
                · have Q3 : Hid _ := q3
                  go_wp2
                  go_ret
                  exact ⟨by rw [OUT.out (p + 1) hlt (by rw [HO.out, decide_eq_false Q1.out, decide_eq_false Q2.out, decide_eq_true Q3.out]; simp)]; rfl, K.trans K2⟩
                · have Q3 : Hid _ := q3
                  go_wp2
                  go_roundw
                  case rel => exact ⟨p + 1 + 1, by omega, by go_num, ST.out (by rw [HO.out, decide_eq_false Q1.out, decide_eq_false Q2.out, decide_eq_false Q3.out]; simp), K2⟩
                  case measure => simp [intOf]; omega
              · have Q0 : Hid _ := q0
                obtain rfl : i = 0 := by omega
                rw [Nat.add_zero] at c0
                go_wp2
                go_roundw
                case rel => exact ⟨1, by omega, by first | rfl | go_num, ST.out (by rw [HO.out, decide_eq_false Q1.out, decide_eq_false Q2.out]; simp), K2⟩
                case measure => simp [intOf]; omega
        · have EE : Hid (∀ j, j < n → okI e.op.k e.op.v e.ks j = true) := fun j hj => E.out j (by omega)
          clear E
          go_wp2
          go_ret
          exact ⟨by rw [YES.out (by omega) EE.out]; rfl, K.trans K2⟩
    · go_wp2
      go_ret
      exact ⟨by rw [NO.out (by omega)]; rfl, K⟩
/-- Had a Range to tell k, and did not? (Its keys fit.) -/
def loB (e : Ev) (k : Int) : Bool := !(decide (k ∈ e.ks)) && (!(decide (k < e.op.k)) && (!(decide (e.op.v < k)) && (!(decide (e.op.n < 1)) && (decide ((e.ks.length : Int) < e.op.n) || decide (k < e.ks.getD (e.ks.length - 1) 0)))))
theorem kf_rise {e : Ev} (h : kfB e = true) {i : Nat} (h1 : 0 < i) (h2 : i < e.ks.length) : e.ks.getD (i - 1) 0 < e.ks.getD i 0 := by
  unfold kfB at h
  rw [Bool.and_eq_true] at h
  have := List.all_eq_true.1 h.2 i (by simpa using h2)
  unfold okI at this
  simp only [Bool.and_eq_true, Bool.not_eq_true', decide_eq_false_iff_not, Bool.and_eq_false_iff, decide_eq_true h1] at this
  rcases this.2.2 with q | q
  · cases q
  · omega
theorem kf_lt {e : Ev} (h : kfB e = true) : ∀ (d i : Nat), i + (d + 1) < e.ks.length → e.ks.getD i 0 < e.ks.getD (i + (d + 1)) 0
  | 0, i, hi => by have := kf_rise h (i := i + 1) (by omega) hi; simpa using this
  | d + 1, i, hi => by
    have h1 := kf_lt h d i (by omega)
    have h2 := kf_rise h (i := i + (d + 1) + 1) (by omega) (by omega)
    rw [Nat.add_sub_cancel] at h2
    rw [show i + (d + 1 + 1) = i + (d + 1) + 1 by omega]; omega
theorem kf_mono {e : Ev} (h : kfB e = true) {i j : Nat} (hij : i < j) (hj : j < e.ks.length) : e.ks.getD i 0 < e.ks.getD j 0 := by
  have := kf_lt h (j - i - 1) i (by omega)
  rwa [show i + (j - i - 1 + 1) = j by omega] at this
theorem hw_mem {e : Ev} (h : kfB e = true) {k : Int} {i : Nat} (hb : BinW e.ks e.ks.length k i) : hwB e.ks e.ks.length k i = decide (k ∈ e.ks) := by
  obtain ⟨h1, h2, h3⟩ := hb
  have key : k ∈ e.ks ↔ (i < e.ks.length ∧ e.ks.getD i 0 = k) := by
    constructor
    · intro hk
      obtain ⟨j, hj, e1⟩ := List.mem_iff_getElem.1 hk
      have e2 : e.ks.getD j 0 = k := by rw [← e1]; simp [hj]
      have nlt : ¬ j < i := fun q => by
        rcases h2 with h2 | h2
        · omega
        · by_cases q2 : j = i - 1
          · rw [q2] at e2; omega
          · have := kf_mono h (i := j) (j := i - 1) (by omega) (by omega); omega
      have ngt : ¬ i < j := fun q => by
        rcases h3 with h3 | h3
        · omega
        · have := kf_mono h (i := i) (j := j) q hj; omega
      have : j = i := by omega
      subst this
      exact ⟨hj, e2⟩
    · rintro ⟨hi, e2⟩
      rw [← e2]; simp [hi]
  unfold hwB
  by_cases q : i < e.ks.length ∧ e.ks.getD i 0 = k
  · rw [decide_eq_true (key.2 q), decide_eq_true q.1, Bool.true_and]; simpa using q.2
  · rw [decide_eq_false (fun hk => q (key.1 hk))]
    by_cases q1 : i < e.ks.length
    · rw [decide_eq_true q1, Bool.true_and]; simpa using fun h => q ⟨q1, h⟩
    · rw [decide_eq_false q1, Bool.false_and]
set_option maxHeartbeats 4000000 in
theorem leavesOut_any (e : Ev) (k : Int) (w : World) (hs : Sl w e.ka e.ks) (hl : e.ks.length ≤ 1000) (hk : kfB e = true) : Calls Try.prog 39 #[.agg (evA e), .int .u64 k] w fun o w' => o = .returned (.bool (loB e k)) ∧ Kept [] w w' := by
  obtain ⟨R, hR⟩ : ∃ R, R = loB e k := ⟨_, rfl⟩
  rw [← hR]
  have HR : Hid _ := hR
  clear hR
  have K := (Kept.refl [] w).alloc (.cells (evA e) 53)
  have Z := EB.new 53 w e
  go_enter Try.func39, Try.ntmps39
  go_upto_region 1 with (fail)
  obtain ⟨B, hB⟩ : ∃ B, B = w.heap.size := ⟨_, rfl⟩
  rw [← hB] at Z ⊢
  refine gen_world (fun W => EB 53 W B e ∧ Kept [] w W) ⟨Z, K⟩ ?_
  clear Z K hB
  rintro W ⟨Z, K⟩
  have c1 := Z.c1
  have c2 := Z.c2
  have c3 := Z.c3
  have c4 := Z.c4
  have c5 := Z.c5
  have c13 := Z.c13
  have lt := Z.lt
  clear Z
  go_region
  go_upto_region 2 with (fail)
  obtain ⟨C, hC⟩ : ∃ C, C = W.heap.size := ⟨_, rfl⟩
  have Y := OB.new W e.op
  rw [← hC] at Y ⊢
  refine gen_world (fun V => OB V C e.op ∧ Kept [] w V) ⟨Y, (K.alloc _).drew⟩ ?_
  clear c1 c2 c3 c4 c5 c13 lt Y K hC
  rintro V ⟨Y, K⟩
  have hb := binw_any e.ka e.ks e.ks.length e.kc k V rfl (hs.new K) hl
  have HS : Hid (Sl V e.ka e.ks) := hs.new K
  have HK : Hid _ := fun i => @hw_mem e hk k i
  clear hs hk
  go_wp2_with fail
  refine hb.mono ?_
  rintro o V2 ⟨i, rfl, hB, K2⟩
  have H2 := HK.out i hB
  rw [H2]
  have S2 : Hid (Sl V2 e.ka e.ks) := HS.out.new K2
  have KT := K.trans K2
  have Y2 := Y.kept K2 (by simp)
  have y1 := Y2.c1
  have y2 := Y2.c2
  have y3 := Y2.c3
  clear Y2 Y hb HS HK H2 hB K K2
  have LAST : Hid (0 < e.ks.length → ∃ b o, e.ka = some ⟨b, o, none⟩ ∧ V2.cell? ⟨b, o + (e.ks.length - 1), none⟩ = some (.int .u64 (e.ks.getD (e.ks.length - 1) 0))) := fun h => by
    obtain ⟨b, o, e1, _, c⟩ := S2.out.cell (i := e.ks.length - 1) (by omega)
    exact ⟨b, o, e1, c⟩
  clear S2
  have HR2 : Hid (R = (!(decide (k ∈ e.ks)) && (!(decide (k < e.op.k)) && (!(decide (e.op.v < k)) && (!(decide (e.op.n < 1)) && (decide ((e.ks.length : Int) < e.op.n) || decide (k < e.ks.getD (e.ks.length - 1) 0))))))) := HR.out
  clear HR
  generalize decide (k ∈ e.ks) = M at HR2 ⊢
  generalize e.ks.length = n at hl LAST HR2 ⊢
  generalize e.ks.getD (n - 1) 0 = z at LAST HR2
  cases M
  · by_cases q1 : k < e.op.k
    · have Q1 : Hid _ := q1
      skip
      go_wp2
      go_ret
      exact ⟨by rw [HR2.out, decide_eq_true Q1.out]; simp, KT⟩
    · have Q1 : Hid _ := q1
      by_cases q2 : e.op.v < k
      · have Q2 : Hid _ := q2
        skip
        go_wp2
        go_ret
        exact ⟨by rw [HR2.out, decide_eq_false Q1.out, decide_eq_true Q2.out]; simp, KT⟩
      · have Q2 : Hid _ := q2
        by_cases q3 : e.op.n < 1
        · have Q3 : Hid _ := q3
          skip
          go_wp2
          go_ret
          exact ⟨by rw [HR2.out, decide_eq_false Q1.out, decide_eq_false Q2.out, decide_eq_true Q3.out]; simp, KT⟩
        · have Q3 : Hid _ := q3
          by_cases q4 : (n : Int) < e.op.n
          · have Q4 : Hid _ := q4
            skip
            go_wp2
            go_ret
            exact ⟨by rw [HR2.out, decide_eq_false Q1.out, decide_eq_false Q2.out, decide_eq_false Q3.out, decide_eq_true Q4.out]; simp, KT⟩
          · have Q4 : Hid _ := q4
            skip
            obtain ⟨p, rfl⟩ : ∃ p, n = p + 1 := ⟨n - 1, by omega⟩
            obtain ⟨b, o, e1, c0⟩ := LAST.out (by omega)
            rw [Nat.add_sub_cancel] at c0
            rw [e1]
            clear LAST
            have z1 : (p : Int) < (p : Int) + 1 := by omega
            go_wp2
            go_ret
            exact ⟨by rw [HR2.out, decide_eq_false Q1.out, decide_eq_false Q2.out, decide_eq_false Q3.out, decide_eq_false Q4.out]; simp; intro h; exact absurd h (by have := Q4.out; omega), KT⟩
  · go_wp2
    go_ret
    exact ⟨by rw [HR2.out]; simp, KT⟩
end Go.Proofs.Ytlmkcakmeldfeaa.Q
