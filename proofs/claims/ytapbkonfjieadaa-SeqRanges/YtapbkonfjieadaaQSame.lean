/-
  Are two answers the same? The program's test, and the document's.
-/
import Derived.Test.YtapbkonfjieadaaQRows
namespace Go.Proofs.Ytapbkonfjieadaa.Q
set_option maxRecDepth 100000
open Go.RowKit
open Go.Deep
theorem take_eq_w {a b : List Int} {k : Nat} (ha : k < a.length) (hb : k < b.length) (h : a.take k = b.take k) : a.take (k + 1) = b.take (k + 1) ↔ a.getD k 0 = b.getD k 0 := by
  rw [take_next ha 0, take_next hb 0, h]
  constructor
  · intro e; simpa using e
  · intro e; rw [e]
set_option maxHeartbeats 1000000 in
theorem eqw_any (ao bo : Option Addr) (us vs : List Int) (n m ca cb : Nat) (w : World) (hn : n = us.length) (hm : m = vs.length) (ha : Sl w ao us) (hb : Sl w bo vs) (hl : n ≤ 1000) :
    Calls Try.prog 36 #[.slice ao n ca, .slice bo m cb] w fun o w' => o = .returned (.bool (decide (us = vs))) ∧ Kept [] w w' := by
  have HN : Hid _ := hn
  have HM : Hid _ := hm
  clear hn hm
  by_cases hnm : n = m
  · subst hnm
    go_enter Try.func36, Try.ntmps36
    go_wp2
    go_loopw [13] (fun i wr => ∃ k : Nat, k ≤ n ∧ i = .int .i64 k ∧ us.take k = vs.take k ∧ Kept [] w wr) (fun i _ => n - (intOf i).toNat)
    case atStart => exact ⟨0, Nat.zero_le _, rfl, rfl, Kept.refl _ _⟩
    case round =>
      obtain ⟨k, hk, rfl, hA, K⟩ := hrel
      by_cases hlt : k < n
      · have hka : k < us.length := by have := HN.out; omega
        have hkb : k < vs.length := by have := HM.out; omega
        obtain ⟨b1, o1, rfl, _, c0⟩ := (ha.new K).cell hka
        obtain ⟨b2, o2, rfl, _, d0⟩ := (hb.new K).cell hkb
        have HA : Hid _ := take_eq_w hka hkb hA
        have HE : Hid (¬ us.getD k 0 = vs.getD k 0 → ¬ us = vs) := fun h e => h (by rw [e])
        clear hA
        generalize us.getD k 0 = x at c0 HA HE
        generalize vs.getD k 0 = y at d0 HA HE
        by_cases h : x = y
        · have t0 : (x == y) = true := by simpa using h
          have HX : Hid _ := h
          clear h
          go_wp2_with fail
          go_quiet (fail)
          go_wp2
          go_roundw
          case rel => exact ⟨k + 1, by omega, by go_num, HA.out.2 HX.out, K.drewN _⟩
          case measure => simp [intOf]; omega
        · have t0 : (x == y) = false := by simpa using h
          go_wp2_with fail
          go_quiet (fail)
          go_wp2
          go_ret
          exact ⟨by rw [decide_eq_false (HE.out h)]; rfl, K.drewN _⟩
      · have e1 : us = vs := by
          rw [← List.take_of_length_le (show us.length ≤ k by have := HN.out; omega), ← List.take_of_length_le (show vs.length ≤ k by have := HM.out; omega)]; exact hA
        clear hA
        go_wp2
        go_ret
        exact ⟨by rw [decide_eq_true e1]; rfl, K⟩
  · have hz : ¬ (n : Int) = (m : Int) := by omega
    have e1 : ¬ us = vs := by rintro rfl; exact hnm (HN.out.trans HM.out.symm)
    go_enter Try.func36, Try.ntmps36
    go_wp2
    go_ret
    exact ⟨by rw [decide_eq_false e1]; rfl, Kept.refl _ _⟩
/-- Are two answers the same? -/
def smB (f1 h1 : Bool) (g1 : Int) (k1 : List Int) (f2 h2 : Bool) (g2 : Int) (k2 : List Int) : Bool := (f1 == f2) && (h1 == h2) && (g1 == g2) && decide (k1 = k2)
set_option maxHeartbeats 1000000 in
theorem ssame_any (f1 h1 f2 h2 : Bool) (g1 g2 : Int) (ao bo : Option Addr) (us vs : List Int) (n m ca cb : Nat) (w : World) (hn : n = us.length) (hm : m = vs.length) (ha : Sl w ao us) (hb : Sl w bo vs) (hl : n ≤ 1000) :
    Calls Try.prog 20 #[.agg #[.bool f1, .bool h1, .int .u64 g1, .slice ao n ca], .agg #[.bool f2, .bool h2, .int .u64 g2, .slice bo m cb]] w fun o w' => o = .returned (.bool (smB f1 h1 g1 us f2 h2 g2 vs)) ∧ Kept [] w w' := by
  have K0 : Kept [] w ((w.alloc (.cells #[.bool f1, .bool h1, .int .u64 g1, .slice ao n ca] 41)).alloc (.cells #[.bool f2, .bool h2, .int .u64 g2, .slice bo m cb] 41)) := ((Kept.refl _ _).alloc _).alloc _
  have hc := eqw_any ao bo us vs n m ca cb _ hn hm (ha.new K0) (hb.new K0) hl
  clear hn hm ha hb
  generalize hd : decide (us = vs) = D at hc
  have HD : Hid _ := hd
  clear hd
  by_cases q1 : f1 = f2
  · subst q1
    by_cases q2 : h1 = h2
    · subst q2
      by_cases q3 : g1 = g2
      · subst q3
        go_enter Try.func20, Try.ntmps20
        go_wp2_with fail
        refine hc.mono ?_
        rintro o w1 ⟨rfl, K1⟩
        go_wp2
        go_ret
        exact ⟨by unfold smB; rw [HD.out]; simp, K0.trans K1⟩
      · have t3 : (g1 == g2) = false := by simpa using q3
        go_enter Try.func20, Try.ntmps20
        go_wp2
        go_ret
        exact ⟨by unfold smB; rw [t3]; simp, K0⟩
    · have t2 : (h1 == h2) = false := by simpa using q2
      go_enter Try.func20, Try.ntmps20
      go_wp2
      go_ret
      exact ⟨by unfold smB; rw [t2]; simp, K0⟩
  · have t1 : (f1 == f2) = false := by simpa using q1
    go_enter Try.func20, Try.ntmps20
    go_wp2
    go_ret
    exact ⟨by unfold smB; rw [t1]; simp, K0⟩
set_option maxHeartbeats 2000000 in
theorem rsame_any (f1 h1 f2 h2 : Bool) (g1 g2 : Int) (ao bo : Option Addr) (us vs : List Int) (n m ca cb : Nat) (w : World) (hn : n = us.length) (hm : m = vs.length) (ha : Sl w ao us) (hb : Sl w bo vs) (hl : n ≤ 1000) :
    Calls Try.prog 19 #[.agg #[.bool f1, .bool h1, .int .u64 g1, .slice ao n ca], .agg #[.bool f2, .bool h2, .int .u64 g2, .slice bo m cb]] w fun o w' => o = .returned (.bool (smB f1 h1 g1 us f2 h2 g2 vs)) ∧ Kept [] w w' := by
  have K0 : Kept [] w ((w.alloc (.cells #[.bool f1, .bool h1, .int .u64 g1, .slice ao n ca] 41)).alloc (.cells #[.bool f2, .bool h2, .int .u64 g2, .slice bo m cb] 41)) := ((Kept.refl _ _).alloc _).alloc _
  have Z0 := (blk_alloc_new (w.alloc (.cells #[.bool f1, .bool h1, .int .u64 g1, .slice ao n ca] 41)) (.cells #[.bool f2, .bool h2, .int .u64 g2, .slice bo m cb] 41))
  have Y0 := ((Kept.refl [] _).alloc (.cells #[.bool f2, .bool h2, .int .u64 g2, .slice bo m cb] 41)).blk (blk_alloc_new w (.cells #[.bool f1, .bool h1, .int .u64 g1, .slice ao n ca] 41)) (by simp)
  rw [nblk_alloc] at Z0
  have HN : Hid _ := hn
  have HM : Hid _ := hm
  clear hn hm
  by_cases q1 : f1 = f2
  · subst q1
    by_cases q2 : h1 = h2
    · subst q2
      by_cases q3 : g1 = g2
      · subst q3
        by_cases hnm : n = m
        · subst hnm
          go_enter Try.func19, Try.ntmps19
          go_wp2
          obtain ⟨H, hH⟩ : ∃ H, H = w.heap.size := ⟨_, rfl⟩
          rw [← hH] at Z0 Y0 ⊢
          refine gen_world (fun W => W.heap[H + 1]? = some (.cells #[.bool f1, .bool h1, .int .u64 g1, .slice bo n cb] 41 (0, 0)) ∧ W.heap[H]? = some (.cells #[.bool f1, .bool h1, .int .u64 g1, .slice ao n ca] 41 (0, 0)) ∧ Kept [] w W) ⟨Z0, Y0, K0⟩ ?_
          clear Z0 Y0 K0 hH
          rintro W0 ⟨Z0, Y0, K0⟩
          go_loopw [5] (fun i wr => ∃ k : Nat, k ≤ n ∧ i = .int .i64 k ∧ us.take k = vs.take k ∧ Kept [] W0 wr) (fun i _ => n - (intOf i).toNat)
          case atStart => exact ⟨0, Nat.zero_le _, rfl, rfl, Kept.refl _ _⟩
          case round =>
            obtain ⟨k, hk, rfl, hA, K⟩ := hrel
            have y3 := cell_of_blk (K.blk Y0 (by simp)) (i := 3) rfl
            have z3 := cell_of_blk (K.blk Z0 (by simp)) (i := 3) rfl
            by_cases hlt : k < n
            · have hka : k < us.length := by have := HN.out; omega
              have hkb : k < vs.length := by have := HM.out; omega
              obtain ⟨b1, o1, rfl, _, c0⟩ := (ha.new (K0.trans K)).cell hka
              obtain ⟨b2, o2, rfl, _, d0⟩ := (hb.new (K0.trans K)).cell hkb
              have HA : Hid _ := take_eq_w hka hkb hA
              have HE : Hid (¬ us.getD k 0 = vs.getD k 0 → ¬ us = vs) := fun h e => h (by rw [e])
              clear hA
              generalize us.getD k 0 = x at c0 HA HE
              generalize vs.getD k 0 = y at d0 HA HE
              by_cases h : x = y
              · have t0 : (x == y) = true := by simpa using h
                have HX : Hid _ := h
                clear h
                go_wp2_with fail
                go_quiet (fail)
                go_wp2
                go_roundw
                case rel => exact ⟨k + 1, by omega, by go_num, HA.out.2 HX.out, K.drewN _⟩
                case measure => simp [intOf]; omega
              · have t0 : (x == y) = false := by simpa using h
                go_wp2_with fail
                go_quiet (fail)
                go_wp2
                go_ret
                exact ⟨by unfold smB; rw [decide_eq_false (HE.out h)]; simp, (K0.trans K).drewN _⟩
            · have e1 : us = vs := by
                rw [← List.take_of_length_le (show us.length ≤ k by have := HN.out; omega), ← List.take_of_length_le (show vs.length ≤ k by have := HM.out; omega)]; exact hA
              have HE : Hid _ := e1
              clear hA e1
              go_wp2
              go_ret
              exact ⟨by unfold smB; rw [decide_eq_true HE.out]; simp, K0.trans K⟩
        · have hz : ¬ (n : Int) = (m : Int) := by omega
          have e1 : ¬ us = vs := by rintro rfl; exact hnm (HN.out.trans HM.out.symm)
          go_enter Try.func19, Try.ntmps19
          go_wp2
          go_ret
          exact ⟨by unfold smB; rw [decide_eq_false e1]; simp, K0⟩
      · have t3 : (g1 == g2) = false := by simpa using q3
        go_enter Try.func19, Try.ntmps19
        go_wp2
        go_ret
        exact ⟨by unfold smB; rw [t3]; simp, K0⟩
    · have t2 : (h1 == h2) = false := by simpa using q2
      go_enter Try.func19, Try.ntmps19
      go_wp2
      go_ret
      exact ⟨by unfold smB; rw [t2]; simp, K0⟩
  · have t1 : (f1 == f2) = false := by simpa using q1
    go_enter Try.func19, Try.ntmps19
    go_wp2
    go_ret
    exact ⟨by unfold smB; rw [t1]; simp, K0⟩
end Go.Proofs.Ytapbkonfjieadaa.Q
