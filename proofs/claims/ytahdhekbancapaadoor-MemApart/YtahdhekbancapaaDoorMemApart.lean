/-
  For every configuration and all eras: those that are reserved stand each for itself, and the clock goes on by one; the law MemApart answers true, and the arguments read as they did.
  Conditions: the package variable of handle that the code reads starts as the program's text lays it (the card ties it to that text).
-/
import Derived.Test.YtahdhekbancapaaDoorMSame
import Derived.Test.YtahdhekbancapaaDoorMAlive
import Derived.Test.YtahdhekbancapaaDoorHLaid
import Derived.Test.YtahdhekbancapaaDoorPArgs
import Derived.ProofKit
import Derived.SizedLaws
import Derived.Carry
namespace Go.Proofs.YtahdhekbancapaaDoor
open Go.ChangeShapes Go.WideShapes Go.ChangeAt Go.RowKit
open Go.Deep
set_option maxRecDepth 100000

theorem clV_load (cs : List Int) (X : Int) : clV cs 1 X 0 0 = cs := by
  unfold clV; split
  · rename_i h
    have hx : X.toNat < cs.length := by have := h.2; have := h.1; omega
    exact set_same cs X.toNat hx _ rfl
  · rfl
/-- What the cells are when the first of the eras stand in them. -/
def ApI (N L : Nat) (es cs : List Int) (A : Nat) : Prop := cs.length = L ∧ cs.getD 0 0 = 1 ∧ ∀ j, j < N → cs.getD (1 + j) 0 = if j < A ∧ j < es.length then es.getD j 0 else 0
theorem getD_set_ne (l : List Int) (i j : Nat) (v : Int) (h : ¬ i = j) : (l.set i v).getD j 0 = l.getD j 0 := by simp [List.getD, h]
theorem getD_set_eq (l : List Int) (i : Nat) (v : Int) (h : i < l.length) : (l.set i v).getD i 0 = v := by simp [List.getD, h]
theorem ap_start (c : Cfg) (h : riB c = true) (T S : Nat) (hT : c.t = T) (hS : c.s = S) (es : List Int) : ApI (T * S) (lnN c) es (fcV c) 0 ∧ T * S < lnN c := by
  have r := riB_true.1 h
  have hts := ts_bd r
  have hl := lnN_eq c
  have hN : ((T * S : Nat) : Int) = c.t * c.s := by rw [hT, hS]; exact Int.natCast_mul T S
  have i0 : inF c 0 0 := ⟨h, by omega, by have := r.c0; omega, by omega, by have := r.h0; omega⟩
  have i4 : inF c 0 4 := ⟨h, by omega, by have := r.c0; omega, by omega, by have := r.h0; omega⟩
  have e0 : clV' c 0 0 = 1 + c.t * c.s + 0 * (6 + c.h) + 0 := if_pos i0
  have e4 : clV' c 0 4 = 1 + c.t * c.s + 0 * (6 + c.h) + 4 := if_pos i4
  have f4 := (fld_wh i4).2.2
  generalize T * S = N at hN ⊢
  have x0 : (clV' c 0 0).toNat = 1 + N := by rw [e0]; omega
  have x4 : (clV' c 0 4).toNat = 5 + N := by rw [e4]; omega
  have hL : 5 + N < lnN c := by omega
  refine ⟨⟨fcV_len c, ?_, fun j hj => ?_⟩, by omega⟩
  · unfold fcV; rw [x0, x4, getD_set_ne _ _ _ _ (by omega), getD_set_ne _ _ _ _ (by omega), getD_set_eq _ _ _ (by simp; omega)]
  · unfold fcV; rw [x0, x4, getD_set_ne _ _ _ _ (by omega), getD_set_ne _ _ _ _ (by omega), getD_set_ne _ _ _ _ (by omega), if_neg (by omega)]
    simp only [List.getD, List.getElem?_replicate]; split <;> rfl
theorem ap_store {N L : Nat} {es cs : List Int} {A : Nat} (h : ApI N L es cs A) (hA : A < N) (hL : N < L) (he : A < es.length) : ApI N L es (cs.set (1 + A) (es.getD A 0)) (A + 1) := by
  obtain ⟨h1, h2, h3⟩ := h
  refine ⟨by simpa using h1, by rw [getD_set_ne _ _ _ _ (by omega)]; exact h2, fun j hj => ?_⟩
  by_cases e : j = A
  · subst e; rw [getD_set_eq _ _ _ (by omega), if_pos ⟨by omega, he⟩]
  · rw [getD_set_ne _ _ _ _ (by omega), h3 j hj]
    by_cases q : j < A ∧ j < es.length
    · rw [if_pos q, if_pos ⟨by omega, q.2⟩]
    · rw [if_neg q, if_neg (by omega)]
theorem ap_skip {N L : Nat} {es cs : List Int} {A : Nat} (h : ApI N L es cs A) (he : ¬ A < es.length) : ApI N L es cs (A + 1) := by
  obtain ⟨h1, h2, h3⟩ := h
  refine ⟨h1, h2, fun j hj => ?_⟩
  rw [h3 j hj]
  by_cases q : j < A ∧ j < es.length
  · rw [if_pos q, if_pos ⟨by omega, q.2⟩]
  · rw [if_neg q, if_neg (by omega)]
theorem rs_at (c : Cfg) (h : riB c = true) (T S k j : Nat) (hT : c.t = T) (hS : c.s = S) (hk : k < T) (hj : j < S) : rsV c k j = ((1 + (k * S + j) : Nat) : Int) := by
  have i : inR c k j := ⟨h, by omega, by rw [hT]; omega, by omega, by rw [hS]; omega⟩
  have e : rsV c k j = 1 + (k : Int) * c.s + j := if_pos i
  rw [e, hS, show ((k : Int) * (S : Int)) = ((k * S : Nat) : Int) from (Int.natCast_mul k S).symm]
  omega
theorem kj_lt {T S k j : Nat} (hk : k < T) (hj : j < S) : k * S + j < T * S := by
  have := Nat.mul_le_mul_right S (show k + 1 ≤ T from hk)
  rw [Nat.succ_mul] at this; omega
theorem store_set (cs : List Int) (i : Nat) (v : Int) (h : i < cs.length) : clV cs 2 (i : Int) 0 v = cs.set i v := by
  unfold clV; rw [if_pos ⟨by omega, by omega⟩]; rfl
theorem load_get (cs : List Int) (i : Nat) (V : Int) (h : i < cs.length) : (acV cs 1 (i : Int) V 0 0).o = cs.getD i 0 := by
  unfold acV; rw [if_pos ⟨by omega, by omega⟩]; rfl
theorem tick_get (cs : List Int) (h : 0 < cs.length) (h0 : cs.getD 0 0 = 1) : (acV cs 4 0 0 0 1).o = 1 ∧ (acV (clV cs 4 0 0 1) 1 0 0 0 0).o = 2 ∧ (acV cs 1 0 0 0 0).o = 1 := by
  have e1 : clV cs 4 0 0 1 = cs.set 0 2 := by
    unfold clV; rw [if_pos ⟨by omega, by omega⟩]
    show cs.set 0 (add64 (cs.getD 0 0) 1) = cs.set 0 2
    rw [h0]; rfl
  refine ⟨?_, ?_, ?_⟩
  · unfold acV; rw [if_pos ⟨by omega, by omega⟩]; exact h0
  · rw [e1]
    exact (load_get (cs.set 0 2) 0 0 (by simpa using h)).trans (getD_set_eq _ _ _ h)
  · exact (load_get cs 0 0 h).trans h0
theorem ap_le {T S k j : Nat} (hk : k < T) (hj : j ≤ S) (hT : T ≤ 8) (hS : S ≤ 8) : k * S + j ≤ 64 := by
  have := Nat.mul_le_mul (show k ≤ 7 by omega) hS
  omega
set_option maxRecDepth 100000 in
set_option maxHeartbeats 4000000 in
theorem memApart_walk (w : World) (c : Cfg) (_g : c.wf) (ao : Option Addr) (xs : List Int) (cap : Nat) (hs : Sl w ao xs) (_hg : ∀ x ∈ xs, isWord x) (_hc : ao = none → cap = 0) (hT : Tab w) :
    Calls Tryd.prog 8 #[c.val, .slice ao xs.length cap] w fun e w' => e = .returned (.bool true) ∧ Kept [] w w' := by
  simp only [Cfg.val]
  have Z := CB.new w c
  have T_ : Kept [] w (w.alloc (.cells #[.int .i64 c.t, .int .i64 c.s, .int .i64 c.c, .int .i64 c.h, .int .i64 c.k, .int .i64 c.e, .int .i64 c.l] 23)) := (Kept.refl _ _).alloc _
  have HT : Hid (Tab (w.alloc (.cells #[.int .i64 c.t, .int .i64 c.s, .int .i64 c.c, .int .i64 c.h, .int .i64 c.k, .int .i64 c.e, .int .i64 c.l] 23))) := hT.kept T_
  obtain ⟨b, hb⟩ : ∃ b, b = w.heap.size := ⟨_, rfl⟩
  have HT0 : Hid (∀ W' : World, Kept [] w W' → Tab W') := fun _ k => hT.kept k
  clear hT
  obtain ⟨n, hn⟩ : ∃ n, n = xs.length := ⟨_, rfl⟩
  rw [← hn]
  have HN : Hid _ := hn
  have HA : Hid _ := hs
  clear hn hs
  cases hr : riB c
  · have HR : Hid _ := hr
    clear hr
    go_enter Tryd.func8, Tryd.ntmps8
    go_wp2_with fail
    rw [← hb] at Z ⊢
    clear hb
    generalize (w.alloc (.cells #[.int .i64 c.t, .int .i64 c.s, .int .i64 c.c, .int .i64 c.h, .int .i64 c.k, .int .i64 c.e, .int .i64 c.l] 23)) = W at Z T_ HT ⊢
    refine (mnew_wrong c _ HR.out).mono ?_
    rintro e W1 ⟨rfl, K1⟩
    replace Z := Z.kept K1 (by simp)
    replace T_ := T_.trans K1
    replace HT : Hid _ := Tab.kept HT.out K1
    go_wp2_with fail
    refine (alive_any _ (by exact HT.out)).mono ?_
    rintro e WA ⟨rfl, KA⟩
    go_wp2
    go_ret
    exact ⟨rfl, T_.trans KA⟩
  have HR : Hid _ := hr
  clear hr
  by_cases h7 : 70 < n
  · have d7 : decide ((70 : Int) < (n : Int)) = true := by rw [decide_eq_true_iff]; omega
    go_enter Tryd.func8, Tryd.ntmps8
    go_wp2_with fail
    rw [← hb] at Z ⊢
    clear hb
    generalize (w.alloc (.cells #[.int .i64 c.t, .int .i64 c.s, .int .i64 c.c, .int .i64 c.h, .int .i64 c.k, .int .i64 c.e, .int .i64 c.l] 23)) = W at Z T_ HT ⊢
    refine (mnew_yes c _ (by exact HT.out) HR.out).mono ?_
    rintro e W1 ⟨m, p, r, rfl, _, M, K1⟩
    replace Z := Z.kept K1 (by simp)
    replace T_ := T_.trans K1
    replace HT : Hid _ := Tab.kept HT.out K1
    clear M
    go_wp2_with fail
    refine (alive_any _ (by exact HT.out)).mono ?_
    rintro e WA ⟨rfl, KA⟩
    go_wp2
    go_ret
    exact ⟨rfl, T_.trans KA⟩
  have d7 : decide ((70 : Int) < (n : Int)) = false := by rw [decide_eq_false_iff_not]; omega
  obtain ⟨T, S, hT, hS, T0, T8, S0, S8⟩ : ∃ T S : Nat, c.t = T ∧ c.s = S ∧ 1 ≤ T ∧ T ≤ 8 ∧ 1 ≤ S ∧ S ≤ 8 := by
    have q := riB_true.1 HR.out
    have := q.t0; have := q.t1; have := q.s0; have := q.s1
    exact ⟨c.t.toNat, c.s.toNat, by omega, by omega, by omega, by omega, by omega, by omega⟩
  have HP : Hid _ := ap_start c HR.out T S hT hS xs
  have HTT : Hid _ := hT
  have HSS : Hid _ := hS
  clear hT hS
  go_enter Tryd.func8, Tryd.ntmps8
  go_wp2_with fail
  have TT := T_
  rw [← hb] at Z ⊢
  clear hb
  generalize (w.alloc (.cells #[.int .i64 c.t, .int .i64 c.s, .int .i64 c.c, .int .i64 c.h, .int .i64 c.k, .int .i64 c.e, .int .i64 c.l] 23)) = W at Z TT HT ⊢
  have hbW := lt_of_blk Z
  have hTW := TT.size
  refine (mnew_yes c _ (by exact HT.out) HR.out).mono ?_
  rintro e W1 ⟨m, p, r, rfl, hm, M, K1⟩
  have hpr : w.heap.size ≤ p ∧ w.heap.size ≤ r ∧ ¬ b = p ∧ ¬ b = r := by omega
  replace Z := Z.kept K1 (by simp)
  replace TT := TT.trans K1
  clear HT K1 hm hbW hTW
  have q0 : W1.cell? ⟨b, 0, none⟩ = some (.int .i64 (T : Int)) := by rw [← HTT.out]; exact cell_of_blk Z (i := 0) rfl
  go_wp2
  go_loopw [7, 33] (fun s7 s33 wr => ∃ (k A : Nat) (cs : List Int) (cnt : Int) (a : Acc), k ≤ T ∧ s33 = .int .i64 k ∧ A = k * S ∧ s7 = .int .i64 A ∧ ApI (T * S) (lnN c) xs cs A ∧ 0 ≤ cnt ∧ cnt ≤ A ∧ Mm wr m p r c cs cnt a ∧ CB wr b c ∧ Kept [] w wr) (fun _ s33 _ => T - (intOf s33).toNat)
  case atStart => exact ⟨0, 0, fcV c, 0, Acc.zero, Nat.zero_le _, rfl, by omega, rfl, HP.out.1, by omega, by omega, M, Z, TT⟩
  case round =>
    clear M Z TT q0
    obtain ⟨k, A, cs, cnt, a, hk, rfl, hA, rfl, hI, hc0, hc1, M, Z, TT⟩ := hrel
    have HAk : Hid _ := hA
    have HI : Hid _ := hI
    clear hA hI
    by_cases hlt : k < T
    · have q1 : wr.cell? ⟨b, 1, none⟩ = some (.int .i64 (S : Int)) := by rw [← HSS.out]; exact cell_of_blk Z (i := 1) rfl
      go_wp2
      go_loopw [7, 38] (fun s7 s38 wr => ∃ (j A : Nat) (cs : List Int) (cnt : Int) (a : Acc), j ≤ S ∧ s38 = .int .i64 j ∧ A = k * S + j ∧ s7 = .int .i64 A ∧ ApI (T * S) (lnN c) xs cs A ∧ 0 ≤ cnt ∧ cnt ≤ A ∧ Mm wr m p r c cs cnt a ∧ CB wr b c ∧ Kept [] w wr) (fun _ s38 _ => S - (intOf s38).toNat)
      case atStart => exact ⟨0, A, cs, cnt, a, Nat.zero_le _, rfl, by rw [HAk.out]; omega, rfl, HI.out, hc0, hc1, M, Z, TT⟩
      case round =>
        clear M Z TT q1 HAk HI hc0 hc1
        obtain ⟨j, A, cs, cnt, a, hj, rfl, hA, rfl, hI, hc0, hc1, M, Z, TT⟩ := hrel
        have HAj : Hid _ := hA
        have HI : Hid _ := hI
        have hA64 : A ≤ 64 := by rw [hA]; exact ap_le hlt hj T8 S8
        clear hA hI
        by_cases hlj : j < S
        · by_cases hAn : A < n
          · have hdA : decide ((A : Int) < (n : Int)) = true := by rw [decide_eq_true_iff]; omega
            obtain ⟨lb, off, rfl, hlb, cA⟩ := (Sl.new HA.out TT).cell (i := A) (by have := HN.out; omega)
            have HV : Hid (ApI (T * S) (lnN c) xs (clV cs 2 (rsV c k j) 0 (xs.getD A 0)) (A + 1)) := by
              have i1 := HI.out
              rw [rs_at c HR.out T S k j HTT.out HSS.out hlt hlj, ← HAj.out, store_set _ _ _ (by have := i1.1; have := kj_lt hlt hlj; have := HP.out.2; have := HAj.out; omega)]
              exact ap_store i1 (by rw [HAj.out]; exact kj_lt hlt hlj) HP.out.2 (by rw [← HN.out]; exact hAn)
            generalize xs.getD A 0 = v at cA HV
            go_wp2_with fail
            refine (mreserve_any m p r c cs cnt a k j v _ M hc0 (by omega)).mono ?_
            rintro e w1 ⟨rfl, M1, K1⟩
            generalize clV cs 2 (rsV c k j) 0 v = cs1 at M1 HV
            generalize acV cs 2 (rsV c k j) 0 0 v = a1 at M1
            have Z1 := Z.kept K1 (by simp; omega)
            have T1 := TT.own K1 hpr.1 hpr.2.1
            clear Z M TT K1 cA
            go_wp2
            exact ⟨⟨j + 1, A + 1, cs1, cnt + 1, a1, by omega, by go_num, by rw [HAj.out]; omega, by go_num, HV.out, by omega, by omega, M1, Z1, T1⟩, by simp [intOf]; omega⟩
          · have hdA : decide ((A : Int) < (n : Int)) = false := by rw [decide_eq_false_iff_not]; omega
            have HV : Hid _ := ap_skip HI.out (by rw [← HN.out]; exact hAn)
            go_wp2
            exact ⟨⟨j + 1, A + 1, cs, cnt, a, by omega, by go_num, by rw [HAj.out]; omega, by go_num, HV.out, by omega, by omega, M, Z, TT⟩, by simp [intOf]; omega⟩
        · have ej : j = S := by omega
          have HJ : Hid _ := ej
          clear ej
          go_wp2
          exact ⟨⟨k + 1, A, cs, cnt, a, by omega, by go_num, by rw [HAj.out, HJ.out, Nat.succ_mul], rfl, HI.out, hc0, hc1, M, Z, TT⟩, by simp [intOf]; omega⟩
    · have ek : k = T := by omega
      have HI2 : Hid (ApI (T * S) (lnN c) xs cs (T * S)) := by have i1 := HI.out; rw [HAk.out, ek] at i1; exact i1
      have hc64 : cnt ≤ 64 := by
        have := HAk.out
        have : A ≤ 64 := by rw [HAk.out, ek]; have := Nat.mul_le_mul T8 S8; omega
        omega
      have q0 : wr.cell? ⟨b, 0, none⟩ = some (.int .i64 (T : Int)) := by rw [← HTT.out]; exact cell_of_blk Z (i := 0) rfl
      clear ek HI HAk hc1
      go_wp2
      go_loopw [7, 59] (fun s7 s59 wr => ∃ (k A : Nat) (cnt : Int) (a : Acc), k ≤ T ∧ s59 = .int .i64 k ∧ A = k * S ∧ s7 = .int .i64 A ∧ 0 ≤ cnt ∧ cnt ≤ 64 + A ∧ Mm wr m p r c cs cnt a ∧ CB wr b c ∧ Kept [] w wr) (fun _ s59 _ => T - (intOf s59).toNat)
      case atStart => exact ⟨0, 0, cnt, a, Nat.zero_le _, rfl, by omega, rfl, hc0, by omega, M, Z, TT⟩
      case round =>
        clear M Z TT q0 hc0 hc64 hlt hk
        obtain ⟨k, A, cnt, a, hk, rfl, hA, rfl, hc0, hc1, M, Z, TT⟩ := hrel
        have HAk : Hid _ := hA
        clear hA
        by_cases hlt : k < T
        · have q1 : wr.cell? ⟨b, 1, none⟩ = some (.int .i64 (S : Int)) := by rw [← HSS.out]; exact cell_of_blk Z (i := 1) rfl
          go_wp2
          go_loopw [7, 64] (fun s7 s64 wr => ∃ (j A : Nat) (cnt : Int) (a : Acc), j ≤ S ∧ s64 = .int .i64 j ∧ A = k * S + j ∧ s7 = .int .i64 A ∧ 0 ≤ cnt ∧ cnt ≤ 64 + A ∧ Mm wr m p r c cs cnt a ∧ CB wr b c ∧ Kept [] w wr) (fun _ s64 _ => S - (intOf s64).toNat)
          case atStart => exact ⟨0, A, cnt, a, Nat.zero_le _, rfl, by rw [HAk.out]; omega, rfl, hc0, hc1, M, Z, TT⟩
          case round =>
            clear M Z TT q1 HAk hc0 hc1
            obtain ⟨j, A, cnt, a, hj, rfl, hA, rfl, hc0, hc1, M, Z, TT⟩ := hrel
            have HAj : Hid _ := hA
            have hA64 : A ≤ 64 := by rw [hA]; exact ap_le hlt hj T8 S8
            clear hA
            by_cases hlj : j < S
            · have RV : Hid (∀ W' : World, Mm W' m p r c cs cnt a → Calls Tryd.prog 30 #[.pointer (some ⟨m, 0, none⟩), .int .i64 k, .int .i64 j] W' fun e w' => e = .returned (.int .u64 (if A < n then xs.getD A 0 else 0)) ∧ (∃ a1, Mm w' m p r c cs (cnt + 1) a1) ∧ Kept [p, r] W' w') := fun W' h => by
                have q := mreserved_any m p r c cs cnt a k j W' h hc0 (by omega)
                have i1 := HI2.out
                have hAT : A < T * S := by rw [HAj.out]; exact kj_lt hlt hlj
                rw [clV_load, rs_at c HR.out T S k j HTT.out HSS.out hlt hlj, ← HAj.out, load_get _ _ _ (by have := i1.1; have := HP.out.2; omega), i1.2.2 A hAT] at q
                refine q.mono fun e w' hh => ⟨hh.1.trans ?_, ⟨_, hh.2.1⟩, hh.2.2⟩
                rw [HN.out]
                by_cases hx : A < xs.length
                · rw [if_pos ⟨hAT, hx⟩, if_pos hx]
                · rw [if_neg (fun z => hx z.2), if_neg hx]
              by_cases hAn : A < n
              · have hdA : decide ((A : Int) < (n : Int)) = true := by rw [decide_eq_true_iff]; omega
                obtain ⟨lb, off, rfl, hlb, cA⟩ := (Sl.new HA.out TT).cell (i := A) (by have := HN.out; omega)
                rw [if_pos hAn] at RV
                generalize xs.getD A 0 = v at cA RV
                go_wp2_with fail
                refine (RV.out _ M).mono ?_
                rintro e w1 ⟨rfl, ⟨a1, M1⟩, K1⟩
                have Z1 := Z.kept K1 (by simp; omega)
                have T1 := TT.own K1 hpr.1 hpr.2.1
                clear Z M TT K1 cA RV
                go_wp2
                exact ⟨⟨j + 1, A + 1, cnt + 1, a1, by omega, by go_num, by rw [HAj.out]; omega, by go_num, by omega, by omega, M1, Z1, T1⟩, by simp [intOf]; omega⟩
              · have hdA : decide ((A : Int) < (n : Int)) = false := by rw [decide_eq_false_iff_not]; omega
                rw [if_neg hAn] at RV
                go_wp2_with fail
                refine (RV.out _ M).mono ?_
                rintro e w1 ⟨rfl, ⟨a1, M1⟩, K1⟩
                have Z1 := Z.kept K1 (by simp; omega)
                have T1 := TT.own K1 hpr.1 hpr.2.1
                clear Z M TT K1 RV
                go_wp2
                exact ⟨⟨j + 1, A + 1, cnt + 1, a1, by omega, by go_num, by rw [HAj.out]; omega, by go_num, by omega, by omega, M1, Z1, T1⟩, by simp [intOf]; omega⟩
            · have ej : j = S := by omega
              have HJ : Hid _ := ej
              clear ej
              go_wp2
              exact ⟨⟨k + 1, A, cnt, a, by omega, by go_num, by rw [HAj.out, HJ.out, Nat.succ_mul], rfl, hc0, hc1, M, Z, TT⟩, by simp [intOf]; omega⟩
        · have hA64 : A ≤ 64 := by rw [HAk.out]; have := Nat.mul_le_mul (show k ≤ 8 by omega) S8; omega
          obtain ⟨i1, i2, _⟩ := HI2.out
          have hL := HP.out.2
          obtain ⟨k1, k2, k3⟩ := tick_get cs (by omega) i2
          have C1 : Hid (∀ W' : World, Mm W' m p r c cs cnt a → Calls Tryd.prog 31 #[.pointer (some ⟨m, 0, none⟩)] W' fun e w' => e = .returned (.int .u64 1) ∧ (∃ a1, Mm w' m p r c cs (cnt + 1) a1) ∧ Kept [p, r] W' w') := fun W' h => by
            have q := mclock_any m p r c cs cnt a W' h hc0 (by omega)
            rw [k3, clV_load] at q
            exact q.mono fun e w' hh => ⟨hh.1, ⟨_, hh.2.1⟩, hh.2.2⟩
          have C2 : Hid (∀ (W' : World) (a1 : Acc), Mm W' m p r c cs (cnt + 1) a1 → Calls Tryd.prog 32 #[.pointer (some ⟨m, 0, none⟩)] W' fun e w' => e = .returned (.int .u64 1) ∧ (∃ a2, Mm w' m p r c (clV cs 4 0 0 1) (cnt + 1 + 1) a2) ∧ Kept [p, r] W' w') := fun W' a1 h => by
            have q := mtick_any m p r c cs (cnt + 1) a1 W' h (by omega) (by omega)
            rw [k1] at q
            exact q.mono fun e w' hh => ⟨hh.1, ⟨_, hh.2.1⟩, hh.2.2⟩
          have C3 : Hid (∀ (W' : World) (a1 : Acc), Mm W' m p r c (clV cs 4 0 0 1) (cnt + 1 + 1) a1 → Calls Tryd.prog 31 #[.pointer (some ⟨m, 0, none⟩)] W' fun e w' => e = .returned (.int .u64 2) ∧ Kept [p, r] W' w') := fun W' a1 h => by
            have q := mclock_any m p r c (clV cs 4 0 0 1) (cnt + 1 + 1) a1 W' h (by omega) (by omega)
            rw [k2] at q
            exact q.mono fun e w' hh => ⟨hh.1, hh.2.2⟩
          clear k1 k2 k3 i1 i2 hL
          go_wp2_with fail
          refine (C1.out _ M).mono ?_
          rintro e w1 ⟨rfl, ⟨a1, M1⟩, K1⟩
          have T1 := TT.own K1 hpr.1 hpr.2.1
          go_wp2_with fail
          refine (alive_any _ (HT0.out _ T1)).mono ?_
          rintro e w2 ⟨rfl, K2⟩
          have T2 := T1.trans K2
          have M2 := M1.new K2
          clear M M1 T1 K1 K2 Z TT
          go_wp2_with fail
          refine (C2.out _ _ M2).mono ?_
          rintro e w3 ⟨rfl, ⟨a3, M3⟩, K3⟩
          have T3 := T2.own K3 hpr.1 hpr.2.1
          clear M2 T2 K3
          go_wp2_with fail
          refine (C3.out _ _ M3).mono ?_
          rintro e w4 ⟨rfl, K4⟩
          have T4 := T3.own K4 hpr.1 hpr.2.1
          go_wp2
          go_ret
          exact ⟨rfl, T4⟩

set_option maxRecDepth 100000 in
theorem memApart_lifted (os : Os) (started : os.Started) (H : Type) (enc : TypeId × Value → H) :
    ReturnsInHanded {} Tryd.checked os 8 .any (fun w args => (Rows.memApartSpec.pre enc Tryd.prog Tryd.f8 [] false w args ∧ laidMetH Tryd.prog laid1 w) ∧ sizedMet enc Tryd.prog Tryd.f8 (OpenSpec.ofChange Rows.memApartSpec) false w args)
      (Rows.memApartSpec.post enc Tryd.prog Tryd.f8 false true false false) := by
  refine returnsInHanded_of_change_and (C := Tryd.checked) (X := fun w _ => laidMetH Tryd.prog laid1 w) (fun _ _ _ hh h => h.of_heap hh) own started (by kernel_rfl) Tryd.func8
    (ChangeSpec.witness_shaped (enc := enc) (C := Tryd.checked) (os := os) (X := fun w _ => laidMetH Tryd.prog laid1 w) false (World.doorLaid Tryd.prog 400 os) #[.agg #[.int .i64 0, .int .i64 0, .int .i64 0, .int .i64 0, .int .i64 0, .int .i64 0, .int .i64 0], .slice none 0 0] 8 rfl (World.shaped_of_RefB (by kernel_rfl) (by kernel_rfl)) (by kernel_rfl) (by kernel_rfl) (by kernel_rfl) (door_met os _)) ?_
  intro W base args ds gs before hval0 hW _ _ hL _
  have hval : ∀ (j : Nat) t v, Tryd.f8.params[j]? = some t → args[j]? = some v → Value.okWide Tryd.prog W .any base t v := hval0
  have hW' := hW
  obtain ⟨p, q, hA0, hV, rfl, _, _⟩ := hW
  have hA : DataW.TrodAll enc Tryd.prog W 0 (fun _ => true) true Tryd.f8.params.toList args.toList ds p := hA0
  rw [Tryd.params8] at hA hval
  clear hA0 hval0
  obtain ⟨v0, vs0, d0, ds0, p0, q0, hargs, rfl, rfl, h0, r0⟩ := trodAll_cons hA
  obtain ⟨v1, vs1, d1, ds1, p1, q1, rfl, rfl, rfl, h1, r1⟩ := trodAll_cons r0
  obtain ⟨rfl, rfl, rfl⟩ := trodAll_nil r1
  obtain rfl : args = #[v0, v1] := by cases args; simp_all
  obtain ⟨rfl, rfl⟩ := trodVars_none hV
  have k0 := h0
  have k1 := h1
  simp only [List.append_nil] at hW'
  have hlt0 : ∀ x ∈ p0, x.block < W.heap.size := fun x hx => hW'.lt x (by simp [hx])
  have hlt1 : ∀ x ∈ p1, x.block < W.heap.size := fun x hx => hW'.lt x (by simp [hx])
  obtain ⟨c0, rfl, g0⟩ := open_cfg (hval 0 23 v0 rfl rfl) h0
  obtain ⟨ao1, cap1, xs1, rfl, s1, g1, z1, n1⟩ := open_words (hval 1 37 v1 rfl rfl) h1
  refine (memApart_walk W c0 g0 ao1 xs1 cap1 s1 g1 n1 (tab_of_laid hL)).mono fun e W' ⟨he, hg⟩ => ?_
  subst he
  have hb := hg.below (by simp)
  exact ⟨_, rfl, _, _, _, [], _, [], hW', (trodAll_cons_mk (shut_bool Tryd.underlying4 _) trodAll_mk0), (trodAll_cons_mk (Below.trod laidOut (by kernel_rfl) (of_decide_eq_true (by kernel_rfl)) k0 hb hlt0) (trodAll_cons_mk (Below.trod laidOut (by kernel_rfl) (of_decide_eq_true (by kernel_rfl)) k1 hb hlt1) trodAll_mk0)), rfl, hb.frame _, fun h => by cases h⟩

theorem memApart_over : Rows.MemApartSaid :=
  OpenClaim.holds_of_wide 8 Tryd.f8 rfl rfl rfl rfl rfl rfl rfl ⟨rfl, rfl, rfl, rfl, rfl⟩ rfl rfl rfl rfl rfl (by kernel_rfl) Tryd.func8 (by kernel_rfl)
    (of_decide_eq_true (by kernel_rfl)) (by unfold Func.isWrapper; first | (rw [if_pos (by decide +kernel)]; kernel_rfl) | (rw [if_neg (by decide +kernel)]; exact ⟨rfl, rfl⟩))
    (fun os started H enc _ => memApart_lifted os started H enc)

theorem memApart_holds : Rows.MemApartCardSaid :=
  Claim7.holds_tied_plain_at .later [] [.data] true (true, "8fbe9499f1103e4c4dda2993993749ae3f6b66e8777a4b39f9f429556d4835eb") false
    memApart_over (fun _ h => by cases h) (by kernel_rfl) (fun _ h => by cases h) memApart_row_tie rfl ⟨rfl, rfl⟩ (by kernel_rfl) rfl
    (fun f fn hf hfn => by
      obtain rfl : f = 8 := Option.some.inj ((show Tryd.prog.funcNamed "stepstone/stepstonelaw05.MemApart" = some 8 by kernel_rfl).symm.trans hf) |>.symm
      obtain rfl : fn = Tryd.f8 := (Option.some.inj (Tryd.func8.symm.trans hfn)).symm
      exact ⟨by kernel_rfl, fun j t ht => by
          rw [Tryd.params8] at ht
          rcases j with _ | j
          · have : t = 23 := by simpa using ht.symm
            subst this; exact (show Tryd.prog.wantsStandIn 23 = false by kernel_rfl)
          rcases j with _ | j
          · have : t = 37 := by simpa using ht.symm
            subst this; exact (show Tryd.prog.wantsStandIn 37 = false by kernel_rfl)
          simp at ht⟩)
    (by kernel_rfl)
#print axioms memApart_holds
end Go.Proofs.YtahdhekbancapaaDoor
