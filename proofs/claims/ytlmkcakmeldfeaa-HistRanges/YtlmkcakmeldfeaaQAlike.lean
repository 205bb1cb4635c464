/-
  Rows of pairs: turned from the document's into the program's and back; the document's own test of whether two are the same.
  Are two answers the same? The program's test, and the document's.
-/
import Derived.Test.YtlmkcakmeldfeaaQBase
namespace Go.Proofs.Ytlmkcakmeldfeaa.Q
set_option maxRecDepth 100000
open Go.RowKit
open Go.Deep
set_option maxHeartbeats 1000000 in
theorem olds_any (ao : Option Addr) (es : List Pr) (n cap : Nat) (w : World) (hn : n = es.length) (hs : SlP w ao es) (hl : n ≤ 1000) :
    Calls Try.prog 15 #[.slice ao n cap] w fun o w' => ∃ bo c', o = .returned (.slice bo n c') ∧ MpV w' bo n c' es ∧ Kept [] w w' := by
  have HN : Hid _ := hn
  clear hn
  go_enter Try.func15, Try.ntmps15
  go_wp2
  go_loopw [3, 8] (fun o i wr => ∃ k : Nat, k ≤ n ∧ i = .int .i64 k ∧ OwnP wr w.heap.size 61 o (es.take k) ∧ Kept [] w wr) (fun _ i _ => n - (intOf i).toNat)
  case atStart => exact ⟨0, Nat.zero_le _, rfl, OwnP.nil _ _ _, Kept.refl _ _⟩
  case round =>
    obtain ⟨k, hk, rfl, O, K⟩ := hrel
    by_cases hlt : k < n
    · have hkx : k < es.length := by have := HN.out; omega
      obtain ⟨b1, o1, rfl, _, c0, c1⟩ := SlP.row (hs.new K) hkx
      have ht := take_next hkx default
      generalize es.getD k default = x at c0 c1 ht
      have K1 : Kept [] wr (wr.alloc (.cells #[.int .u64 x.k, .int .u64 x.v] 56)) := (Kept.refl _ _).alloc _
      obtain ⟨g, cp, w1, hap, O1, _, K2⟩ := append_pair 31 Try.underlying31 info_ref _ w.heap.size (wr.heap.size + 1) _ (es.take k) x (nblk_alloc _ _) (O.new K1) (by have := K.size; have := K1.size; omega) (by rw [List.length_take]; omega)
      rw [← ht] at O1
      have T1 := Kept.ofOwn (K.trans K1) (O.new K1) (Nat.le_refl _) K2
      have hlen : (es.take k).length + 1 = k + 1 := by rw [List.length_take]; omega
      rw [hlen] at hap O1
      have HO : Hid _ := And.intro O1 T1
      clear O1 T1 K2 O K K1 ht hlen
      go_wp2_with (at_builtin; refine wpList_append_run rfl (.tmp 12) (.tmp 14) 31 rfl rfl rfl hap ?_)
      clear hap
      exact ⟨⟨k + 1, by omega, by go_num, HO.out.1, HO.out.2⟩, by simp [intOf]; omega⟩
    · have e2 : es.take k = es := List.take_of_length_le (by have := HN.out; omega)
      rw [e2] at O
      obtain ⟨bo, c', rfl, S, hle, hc⟩ := O.shape
      rw [← HN.out] at hle ⊢
      go_wp2
      go_ret
      exact ⟨bo, c', rfl, ⟨HN.out, S, hle, hc⟩, K⟩
theorem part_u64 (xs : Array Value) (n : Nat) (v : Value) (h : xs[n]? = some v) (w : World) : Sem.run Try.prog (part 41 xs n) w = .ok v w := by
  have ha : ∀ w, Sem.run Try.prog (isAgg 41) w = .ok false w := fun _ => by kernel_rfl
  unfold part
  simp [Sem.run_bind, ha, h]
theorem fields2e {l : List Field} {x y : String × TypeId × Nat} (h : l.map (fun f => (f.name, f.type, f.offset)) = [x, y]) : ∃ a b, l = [a, b] ∧ (a.name = x.1 ∧ a.type = x.2.1 ∧ a.offset = x.2.2) ∧ (b.name = y.1 ∧ b.type = y.2.1 ∧ b.offset = y.2.2) := by
  match l, h with
  | [a, b], h =>
    simp only [List.map_cons, List.map_nil, List.cons.injEq, and_true] at h
    obtain ⟨h1, h2⟩ := h
    subst h1 h2
    exact ⟨a, b, rfl, ⟨rfl, rfl, rfl⟩, ⟨rfl, rfl, rfl⟩⟩
theorem eq_rpair (a0 a1 b0 b1 : Int) (w : World) :
    Sem.run Try.prog (Op.equalIn 10000 61 (.agg #[.int .u64 a0, .int .u64 a1]) (.agg #[.int .u64 b0, .int .u64 b1])) w = .ok (a0 == b0 && a1 == b1) w := by
  rw [show (10000 : Nat) = 9999 + 1 from rfl, run_equalIn_struct w 9999 61 _ _ Try.underlying61 (by kernel_rfl)]
  have hf : (Try.prog.fieldsOf 61).toList.map (fun f => (f.name, f.type, f.offset)) = [("K", 41, 0), ("V", 41, 1)] := by kernel_rfl
  obtain ⟨f0, f1, hl, g0, g1⟩ := fields2e hf
  have he := fun (a b : Int) w => run_equalIn_int (P := Try.prog) w 9998 41 .u64 .u64 a b Try.underlying41
  have ha0 : ∀ w, Sem.run Try.prog (part 41 #[Value.int IntKind.u64 a0, Value.int IntKind.u64 a1] 0) w = .ok (.int .u64 a0) w := fun w => part_u64 _ 0 _ rfl w
  have ha1 : ∀ w, Sem.run Try.prog (part 41 #[Value.int IntKind.u64 a0, Value.int IntKind.u64 a1] 1) w = .ok (.int .u64 a1) w := fun w => part_u64 _ 1 _ rfl w
  have hb0 : ∀ w, Sem.run Try.prog (part 41 #[Value.int IntKind.u64 b0, Value.int IntKind.u64 b1] 0) w = .ok (.int .u64 b0) w := fun w => part_u64 _ 0 _ rfl w
  have hb1 : ∀ w, Sem.run Try.prog (part 41 #[Value.int IntKind.u64 b0, Value.int IntKind.u64 b1] 1) w = .ok (.int .u64 b1) w := fun w => part_u64 _ 1 _ rfl w
  rw [hl]
  simp only at g0 g1
  cases e0 : (a0 == b0) <;> cases e1 : (a1 == b1) <;>
    simp [Op.eqFields, Sem.run_bind, ha0, ha1, hb0, hb1, he, e0, e1, g0, g1]
theorem eq_spair (a0 a1 b0 b1 : Int) (w : World) :
    Sem.run Try.prog (Op.equalIn 10000 56 (.agg #[.int .u64 a0, .int .u64 a1]) (.agg #[.int .u64 b0, .int .u64 b1])) w = .ok (a0 == b0 && a1 == b1) w := by
  rw [show (10000 : Nat) = 9999 + 1 from rfl, run_equalIn_struct w 9999 56 _ _ Try.underlying56 (by kernel_rfl)]
  have hf : (Try.prog.fieldsOf 56).toList.map (fun f => (f.name, f.type, f.offset)) = [("K", 41, 0), ("V", 41, 1)] := by kernel_rfl
  obtain ⟨f0, f1, hl, g0, g1⟩ := fields2e hf
  have he := fun (a b : Int) w => run_equalIn_int (P := Try.prog) w 9998 41 .u64 .u64 a b Try.underlying41
  have ha0 : ∀ w, Sem.run Try.prog (part 41 #[Value.int IntKind.u64 a0, Value.int IntKind.u64 a1] 0) w = .ok (.int .u64 a0) w := fun w => part_u64 _ 0 _ rfl w
  have ha1 : ∀ w, Sem.run Try.prog (part 41 #[Value.int IntKind.u64 a0, Value.int IntKind.u64 a1] 1) w = .ok (.int .u64 a1) w := fun w => part_u64 _ 1 _ rfl w
  have hb0 : ∀ w, Sem.run Try.prog (part 41 #[Value.int IntKind.u64 b0, Value.int IntKind.u64 b1] 0) w = .ok (.int .u64 b0) w := fun w => part_u64 _ 0 _ rfl w
  have hb1 : ∀ w, Sem.run Try.prog (part 41 #[Value.int IntKind.u64 b0, Value.int IntKind.u64 b1] 1) w = .ok (.int .u64 b1) w := fun w => part_u64 _ 1 _ rfl w
  rw [hl]
  simp only at g0 g1
  cases e0 : (a0 == b0) <;> cases e1 : (a1 == b1) <;>
    simp [Op.eqFields, Sem.run_bind, ha0, ha1, hb0, hb1, he, e0, e1, g0, g1]
set_option maxHeartbeats 1000000 in
theorem requal_any (ao bo : Option Addr) (us : List Pr) (n ca cb : Nat) (w : World) (hn : n = us.length) (ha : SlP w ao us) (hb : SlP w bo us) (hl : n ≤ 1000) :
    Calls Try.prog 14 #[.slice ao n ca, .slice bo n cb] w fun o w' => o = .returned (.bool true) ∧ Kept [] w w' := by
  have HN : Hid _ := hn
  clear hn
  go_enter Try.func14, Try.ntmps14
  go_wp2
  go_loopw [5] (fun i wr => ∃ k : Nat, k ≤ n ∧ i = .int .i64 k ∧ Kept [] w wr) (fun i _ => n - (intOf i).toNat)
  case atStart => exact ⟨0, Nat.zero_le _, rfl, Kept.refl _ _⟩
  case round =>
    obtain ⟨k, hk, rfl, K⟩ := hrel
    by_cases hlt : k < n
    · have hka : k < us.length := by have := HN.out; omega
      obtain ⟨b1, o1, rfl, _, c0, c1⟩ := SlP.row (ha.new K) hka
      obtain ⟨b2, o2, rfl, _, d0, d1⟩ := SlP.row (hb.new K) hka
      generalize us.getD k default = x at c0 c1 d0 d1
      have heq := eq_rpair x.k x.v x.k x.v
      simp only [beq_self_eq_true, Bool.and_self] at heq
      go_wp2_with fail
      go_quiet (fail)
      go_wp2
      go_roundw
      case rel => exact ⟨k + 1, by omega, by go_num, K.drewN _⟩
      case measure => simp [intOf]; omega
    · go_wp2
      go_ret
      exact ⟨rfl, K⟩
end Go.Proofs.Ytlmkcakmeldfeaa.Q
namespace Go.Proofs.Ytlmkcakmeldfeaa.Q
set_option maxRecDepth 100000
open Go.RowKit
open Go.Deep
theorem take_eq_w {a b : List Int} {k : Nat} (ha : k < a.length) (hb : k < b.length) (h : a.take k = b.take k) : a.take (k + 1) = b.take (k + 1) ↔ a.getD k 0 = b.getD k 0 := by
  rw [take_next ha 0, take_next hb 0, h]
  constructor
  · intro e; simpa using e
  · intro e; rw [e]
set_option maxHeartbeats 1000000 in
theorem eqw_any (ao bo : Option Addr) (us vs : List Int) (n m ca cb : Nat) (w : World) (hn : n = us.length) (hm : m = vs.length) (ha : Sl w ao us) (hb : Sl w bo vs) (hl : n ≤ 1000) :
    Calls Try.prog 62 #[.slice ao n ca, .slice bo m cb] w fun o w' => o = .returned (.bool (decide (us = vs))) ∧ Kept [] w w' := by
  have HN : Hid _ := hn
  have HM : Hid _ := hm
  clear hn hm
  by_cases hnm : n = m
  · subst hnm
    go_enter Try.func62, Try.ntmps62
    go_wp2
    go_loopw [13] (fun i wr => ∃ k : Nat, k ≤ n ∧ i = .int .i64 k ∧ us.take k = vs.take k ∧ Kept [] w wr) (fun i _ => n - (intOf i).toNat)
    case atStart => exact ⟨0, Nat.zero_le _, rfl, rfl, Kept.refl _ _⟩
    case round =>
      obtain ⟨k, hk, rfl, hA, K⟩ := hrel
      by_cases hlt : k < n
      · have hka : k < us.length := by have := HN.out; omega
        have hkb : k < vs.length := by have := HM.out; omega
        obtain ⟨b1, o1, rfl, _, c0⟩ := (ha.new K).cell hka
        obtain ⟨b2, o2, rfl, _, d0⟩ := (hb.new K).cell hkb
        have HA : Hid _ := take_eq_w hka hkb hA
        have HE : Hid (¬ us.getD k 0 = vs.getD k 0 → ¬ us = vs) := fun h e => h (by rw [e])
        clear hA
        generalize us.getD k 0 = x at c0 HA HE
        generalize vs.getD k 0 = y at d0 HA HE
        by_cases h : x = y
        · have t0 : (x == y) = true := by simpa using h
          have HX : Hid _ := h
          clear h
          go_wp2_with fail
          go_quiet (fail)
          go_wp2
          go_roundw
          case rel => exact ⟨k + 1, by omega, by go_num, HA.out.2 HX.out, K.drewN _⟩
          case measure => simp [intOf]; omega
        · have t0 : (x == y) = false := by simpa using h
          go_wp2_with fail
          go_quiet (fail)
          go_wp2
          go_ret
          exact ⟨by rw [decide_eq_false (HE.out h)]; rfl, K.drewN _⟩
      · have e1 : us = vs := by
          rw [← List.take_of_length_le (show us.length ≤ k by have := HN.out; omega), ← List.take_of_length_le (show vs.length ≤ k by have := HM.out; omega)]; exact hA
        clear hA
        go_wp2
        go_ret
        exact ⟨by rw [decide_eq_true e1]; rfl, K⟩
  · have hz : ¬ (n : Int) = (m : Int) := by omega
    have e1 : ¬ us = vs := by rintro rfl; exact hnm (HN.out.trans HM.out.symm)
    go_enter Try.func62, Try.ntmps62
    go_wp2
    go_ret
    exact ⟨by rw [decide_eq_false e1]; rfl, Kept.refl _ _⟩
/-- Are two answers the same? -/
def smB (f1 h1 : Bool) (g1 : Int) (k1 : List Int) (f2 h2 : Bool) (g2 : Int) (k2 : List Int) : Bool := (f1 == f2) && (h1 == h2) && (g1 == g2) && decide (k1 = k2)
set_option maxHeartbeats 1000000 in
theorem ssame_any (f1 h1 f2 h2 : Bool) (g1 g2 : Int) (ao bo : Option Addr) (us vs : List Int) (n m ca cb : Nat) (w : World) (hn : n = us.length) (hm : m = vs.length) (ha : Sl w ao us) (hb : Sl w bo vs) (hl : n ≤ 1000) :
    Calls Try.prog 53 #[.agg #[.bool f1, .bool h1, .int .u64 g1, .slice ao n ca], .agg #[.bool f2, .bool h2, .int .u64 g2, .slice bo m cb]] w fun o w' => o = .returned (.bool (smB f1 h1 g1 us f2 h2 g2 vs)) ∧ Kept [] w w' := by
  have K0 : Kept [] w ((w.alloc (.cells #[.bool f1, .bool h1, .int .u64 g1, .slice ao n ca] 46)).alloc (.cells #[.bool f2, .bool h2, .int .u64 g2, .slice bo m cb] 46)) := ((Kept.refl _ _).alloc _).alloc _
  have hc := eqw_any ao bo us vs n m ca cb _ hn hm (ha.new K0) (hb.new K0) hl
  clear hn hm ha hb
  generalize hd : decide (us = vs) = D at hc
  have HD : Hid _ := hd
  clear hd
  by_cases q1 : f1 = f2
  · subst q1
    by_cases q2 : h1 = h2
    · subst q2
      by_cases q3 : g1 = g2
      · subst q3
        go_enter Try.func53, Try.ntmps53
        go_wp2_with fail
        refine hc.mono ?_
        rintro o w1 ⟨rfl, K1⟩
        go_wp2
        go_ret
        exact ⟨by unfold smB; rw [HD.out]; simp, K0.trans K1⟩
      · have t3 : (g1 == g2) = false := by simpa using q3
        go_enter Try.func53, Try.ntmps53
        go_wp2
        go_ret
        exact ⟨by unfold smB; rw [t3]; simp, K0⟩
    · have t2 : (h1 == h2) = false := by simpa using q2
      go_enter Try.func53, Try.ntmps53
      go_wp2
      go_ret
      exact ⟨by unfold smB; rw [t2]; simp, K0⟩
  · have t1 : (f1 == f2) = false := by simpa using q1
    go_enter Try.func53, Try.ntmps53
    go_wp2
    go_ret
    exact ⟨by unfold smB; rw [t1]; simp, K0⟩
set_option maxHeartbeats 2000000 in
theorem rsame_any (f1 h1 f2 h2 : Bool) (g1 g2 : Int) (ao bo : Option Addr) (us vs : List Int) (n m ca cb : Nat) (w : World) (hn : n = us.length) (hm : m = vs.length) (ha : Sl w ao us) (hb : Sl w bo vs) (hl : n ≤ 1000) :
    Calls Try.prog 34 #[.agg #[.bool f1, .bool h1, .int .u64 g1, .slice ao n ca], .agg #[.bool f2, .bool h2, .int .u64 g2, .slice bo m cb]] w fun o w' => o = .returned (.bool (smB f1 h1 g1 us f2 h2 g2 vs)) ∧ Kept [] w w' := by
  have K0 : Kept [] w ((w.alloc (.cells #[.bool f1, .bool h1, .int .u64 g1, .slice ao n ca] 46)).alloc (.cells #[.bool f2, .bool h2, .int .u64 g2, .slice bo m cb] 46)) := ((Kept.refl _ _).alloc _).alloc _
  have Z0 := (blk_alloc_new (w.alloc (.cells #[.bool f1, .bool h1, .int .u64 g1, .slice ao n ca] 46)) (.cells #[.bool f2, .bool h2, .int .u64 g2, .slice bo m cb] 46))
  have Y0 := ((Kept.refl [] _).alloc (.cells #[.bool f2, .bool h2, .int .u64 g2, .slice bo m cb] 46)).blk (blk_alloc_new w (.cells #[.bool f1, .bool h1, .int .u64 g1, .slice ao n ca] 46)) (by simp)
  rw [nblk_alloc] at Z0
  have HN : Hid _ := hn
  have HM : Hid _ := hm
  clear hn hm
  by_cases q1 : f1 = f2
  · subst q1
    by_cases q2 : h1 = h2
    · subst q2
      by_cases q3 : g1 = g2
      · subst q3
        by_cases hnm : n = m
        · subst hnm
          go_enter Try.func34, Try.ntmps34
          go_wp2
          obtain ⟨H, hH⟩ : ∃ H, H = w.heap.size := ⟨_, rfl⟩
          rw [← hH] at Z0 Y0 ⊢
          refine gen_world (fun W => W.heap[H + 1]? = some (.cells #[.bool f1, .bool h1, .int .u64 g1, .slice bo n cb] 46 (0, 0)) ∧ W.heap[H]? = some (.cells #[.bool f1, .bool h1, .int .u64 g1, .slice ao n ca] 46 (0, 0)) ∧ Kept [] w W) ⟨Z0, Y0, K0⟩ ?_
          clear Z0 Y0 K0 hH
          rintro W0 ⟨Z0, Y0, K0⟩
          go_loopw [5] (fun i wr => ∃ k : Nat, k ≤ n ∧ i = .int .i64 k ∧ us.take k = vs.take k ∧ Kept [] W0 wr) (fun i _ => n - (intOf i).toNat)
          case atStart => exact ⟨0, Nat.zero_le _, rfl, rfl, Kept.refl _ _⟩
          case round =>
            obtain ⟨k, hk, rfl, hA, K⟩ := hrel
            have y3 := cell_of_blk (K.blk Y0 (by simp)) (i := 3) rfl
            have z3 := cell_of_blk (K.blk Z0 (by simp)) (i := 3) rfl
            by_cases hlt : k < n
            · have hka : k < us.length := by have := HN.out; omega
              have hkb : k < vs.length := by have := HM.out; omega
              obtain ⟨b1, o1, rfl, _, c0⟩ := (ha.new (K0.trans K)).cell hka
              obtain ⟨b2, o2, rfl, _, d0⟩ := (hb.new (K0.trans K)).cell hkb
              have HA : Hid _ := take_eq_w hka hkb hA
              have HE : Hid (¬ us.getD k 0 = vs.getD k 0 → ¬ us = vs) := fun h e => h (by rw [e])
              clear hA
              generalize us.getD k 0 = x at c0 HA HE
              generalize vs.getD k 0 = y at d0 HA HE
              by_cases h : x = y
              · have t0 : (x == y) = true := by simpa using h
                have HX : Hid _ := h
                clear h
                go_wp2_with fail
                go_quiet (fail)
                go_wp2
                go_roundw
                case rel => exact ⟨k + 1, by omega, by go_num, HA.out.2 HX.out, K.drewN _⟩
                case measure => simp [intOf]; omega
              · have t0 : (x == y) = false := by simpa using h
                go_wp2_with fail
                go_quiet (fail)
                go_wp2
                go_ret
                exact ⟨by unfold smB; rw [decide_eq_false (HE.out h)]; simp, (K0.trans K).drewN _⟩
            · have e1 : us = vs := by
                rw [← List.take_of_length_le (show us.length ≤ k by have := HN.out; omega), ← List.take_of_length_le (show vs.length ≤ k by have := HM.out; omega)]; exact hA
              have HE : Hid _ := e1
              clear hA e1
              go_wp2
              go_ret
              exact ⟨by unfold smB; rw [decide_eq_true HE.out]; simp, K0.trans K⟩
        · have hz : ¬ (n : Int) = (m : Int) := by omega
          have e1 : ¬ us = vs := by rintro rfl; exact hnm (HN.out.trans HM.out.symm)
          go_enter Try.func34, Try.ntmps34
          go_wp2
          go_ret
          exact ⟨by unfold smB; rw [decide_eq_false e1]; simp, K0⟩
      · have t3 : (g1 == g2) = false := by simpa using q3
        go_enter Try.func34, Try.ntmps34
        go_wp2
        go_ret
        exact ⟨by unfold smB; rw [t3]; simp, K0⟩
    · have t2 : (h1 == h2) = false := by simpa using q2
      go_enter Try.func34, Try.ntmps34
      go_wp2
      go_ret
      exact ⟨by unfold smB; rw [t2]; simp, K0⟩
  · have t1 : (f1 == f2) = false := by simpa using q1
    go_enter Try.func34, Try.ntmps34
    go_wp2
    go_ret
    exact ⟨by unfold smB; rw [t1]; simp, K0⟩
end Go.Proofs.Ytlmkcakmeldfeaa.Q
