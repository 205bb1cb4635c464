/-
  Rows of pairs: turned from the document's into the program's and back; the document's own test of whether two are the same.
-/
import Derived.Test.YtapbkonfjieadaaQOf2
namespace Go.Proofs.Ytapbkonfjieadaa.Q
set_option maxRecDepth 100000
open Go.RowKit
open Go.Deep
set_option maxHeartbeats 1000000 in
theorem news_any (ao : Option Addr) (es : List Pr) (n cap : Nat) (w : World) (hn : n = es.length) (hs : SlP w ao es) (hl : n ≤ 1000) :
    Calls Try.prog 11 #[.slice ao n cap] w fun o w' => ∃ bo c', o = .returned (.slice bo n c') ∧ MpV w' bo n c' es ∧ Kept [] w w' := by
  have HN : Hid _ := hn
  clear hn
  go_enter Try.func11, Try.ntmps11
  go_wp2
  go_loopw [3, 8] (fun o i wr => ∃ k : Nat, k ≤ n ∧ i = .int .i64 k ∧ OwnP wr w.heap.size 52 o (es.take k) ∧ Kept [] w wr) (fun _ i _ => n - (intOf i).toNat)
  case atStart => exact ⟨0, Nat.zero_le _, rfl, OwnP.nil _ _ _, Kept.refl _ _⟩
  case round =>
    obtain ⟨k, hk, rfl, O, K⟩ := hrel
    by_cases hlt : k < n
    · have hkx : k < es.length := by have := HN.out; omega
      obtain ⟨b1, o1, rfl, _, c0, c1⟩ := SlP.row (hs.new K) hkx
      have ht := take_next hkx default
      generalize es.getD k default = x at c0 c1 ht
      have K1 : Kept [] wr (wr.alloc (.cells #[.int .u64 x.k, .int .u64 x.v] 62)) := (Kept.refl _ _).alloc _
      obtain ⟨g, cp, w1, hap, O1, _, K2⟩ := append_pair 24 Try.underlying24 info_seq _ w.heap.size (wr.heap.size + 1) _ (es.take k) x (nblk_alloc _ _) (O.new K1) (by have := K.size; have := K1.size; omega) (by rw [List.length_take]; omega)
      rw [← ht] at O1
      have T1 := Kept.ofOwn (K.trans K1) (O.new K1) (Nat.le_refl _) K2
      have hlen : (es.take k).length + 1 = k + 1 := by rw [List.length_take]; omega
      rw [hlen] at hap O1
      have HO : Hid _ := And.intro O1 T1
      clear O1 T1 K2 O K K1 ht hlen
      go_wp2_with (at_builtin; refine wpList_append_run rfl (.tmp 12) (.tmp 14) 24 rfl rfl rfl hap ?_)
      clear hap
      exact ⟨⟨k + 1, by omega, by go_num, HO.out.1, HO.out.2⟩, by simp [intOf]; omega⟩
    · have e2 : es.take k = es := List.take_of_length_le (by have := HN.out; omega)
      rw [e2] at O
      obtain ⟨bo, c', rfl, S, hle, hc⟩ := O.shape
      rw [← HN.out] at hle ⊢
      go_wp2
      go_ret
      exact ⟨bo, c', rfl, ⟨HN.out, S, hle, hc⟩, K⟩
set_option maxHeartbeats 1000000 in
theorem olds_any (ao : Option Addr) (es : List Pr) (n cap : Nat) (w : World) (hn : n = es.length) (hs : SlP w ao es) (hl : n ≤ 1000) :
    Calls Try.prog 13 #[.slice ao n cap] w fun o w' => ∃ bo c', o = .returned (.slice bo n c') ∧ MpV w' bo n c' es ∧ Kept [] w w' := by
  have HN : Hid _ := hn
  clear hn
  go_enter Try.func13, Try.ntmps13
  go_wp2
  go_loopw [3, 8] (fun o i wr => ∃ k : Nat, k ≤ n ∧ i = .int .i64 k ∧ OwnP wr w.heap.size 62 o (es.take k) ∧ Kept [] w wr) (fun _ i _ => n - (intOf i).toNat)
  case atStart => exact ⟨0, Nat.zero_le _, rfl, OwnP.nil _ _ _, Kept.refl _ _⟩
  case round =>
    obtain ⟨k, hk, rfl, O, K⟩ := hrel
    by_cases hlt : k < n
    · have hkx : k < es.length := by have := HN.out; omega
      obtain ⟨b1, o1, rfl, _, c0, c1⟩ := SlP.row (hs.new K) hkx
      have ht := take_next hkx default
      generalize es.getD k default = x at c0 c1 ht
      have K1 : Kept [] wr (wr.alloc (.cells #[.int .u64 x.k, .int .u64 x.v] 52)) := (Kept.refl _ _).alloc _
      obtain ⟨g, cp, w1, hap, O1, _, K2⟩ := append_pair 22 Try.underlying22 info_ref _ w.heap.size (wr.heap.size + 1) _ (es.take k) x (nblk_alloc _ _) (O.new K1) (by have := K.size; have := K1.size; omega) (by rw [List.length_take]; omega)
      rw [← ht] at O1
      have T1 := Kept.ofOwn (K.trans K1) (O.new K1) (Nat.le_refl _) K2
      have hlen : (es.take k).length + 1 = k + 1 := by rw [List.length_take]; omega
      rw [hlen] at hap O1
      have HO : Hid _ := And.intro O1 T1
      clear O1 T1 K2 O K K1 ht hlen
      go_wp2_with (at_builtin; refine wpList_append_run rfl (.tmp 12) (.tmp 14) 22 rfl rfl rfl hap ?_)
      clear hap
      exact ⟨⟨k + 1, by omega, by go_num, HO.out.1, HO.out.2⟩, by simp [intOf]; omega⟩
    · have e2 : es.take k = es := List.take_of_length_le (by have := HN.out; omega)
      rw [e2] at O
      obtain ⟨bo, c', rfl, S, hle, hc⟩ := O.shape
      rw [← HN.out] at hle ⊢
      go_wp2
      go_ret
      exact ⟨bo, c', rfl, ⟨HN.out, S, hle, hc⟩, K⟩
theorem part_u64 (xs : Array Value) (n : Nat) (v : Value) (h : xs[n]? = some v) (w : World) : Sem.run Try.prog (part 36 xs n) w = .ok v w := by
  have ha : ∀ w, Sem.run Try.prog (isAgg 36) w = .ok false w := fun _ => by kernel_rfl
  unfold part
  simp [Sem.run_bind, ha, h]
theorem fields2e {l : List Field} {x y : String × TypeId × Nat} (h : l.map (fun f => (f.name, f.type, f.offset)) = [x, y]) : ∃ a b, l = [a, b] ∧ (a.name = x.1 ∧ a.type = x.2.1 ∧ a.offset = x.2.2) ∧ (b.name = y.1 ∧ b.type = y.2.1 ∧ b.offset = y.2.2) := by
  match l, h with
  | [a, b], h =>
    simp only [List.map_cons, List.map_nil, List.cons.injEq, and_true] at h
    obtain ⟨h1, h2⟩ := h
    subst h1 h2
    exact ⟨a, b, rfl, ⟨rfl, rfl, rfl⟩, ⟨rfl, rfl, rfl⟩⟩
theorem eq_rpair (a0 a1 b0 b1 : Int) (w : World) :
    Sem.run Try.prog (Op.equalIn 10000 62 (.agg #[.int .u64 a0, .int .u64 a1]) (.agg #[.int .u64 b0, .int .u64 b1])) w = .ok (a0 == b0 && a1 == b1) w := by
  rw [show (10000 : Nat) = 9999 + 1 from rfl, run_equalIn_struct w 9999 62 _ _ Try.underlying62 (by kernel_rfl)]
  have hf : (Try.prog.fieldsOf 62).toList.map (fun f => (f.name, f.type, f.offset)) = [("K", 36, 0), ("V", 36, 1)] := by kernel_rfl
  obtain ⟨f0, f1, hl, g0, g1⟩ := fields2e hf
  have he := fun (a b : Int) w => run_equalIn_int (P := Try.prog) w 9998 36 .u64 .u64 a b Try.underlying36
  have ha0 : ∀ w, Sem.run Try.prog (part 36 #[Value.int IntKind.u64 a0, Value.int IntKind.u64 a1] 0) w = .ok (.int .u64 a0) w := fun w => part_u64 _ 0 _ rfl w
  have ha1 : ∀ w, Sem.run Try.prog (part 36 #[Value.int IntKind.u64 a0, Value.int IntKind.u64 a1] 1) w = .ok (.int .u64 a1) w := fun w => part_u64 _ 1 _ rfl w
  have hb0 : ∀ w, Sem.run Try.prog (part 36 #[Value.int IntKind.u64 b0, Value.int IntKind.u64 b1] 0) w = .ok (.int .u64 b0) w := fun w => part_u64 _ 0 _ rfl w
  have hb1 : ∀ w, Sem.run Try.prog (part 36 #[Value.int IntKind.u64 b0, Value.int IntKind.u64 b1] 1) w = .ok (.int .u64 b1) w := fun w => part_u64 _ 1 _ rfl w
  rw [hl]
  simp only at g0 g1
  cases e0 : (a0 == b0) <;> cases e1 : (a1 == b1) <;>
    simp [Op.eqFields, Sem.run_bind, ha0, ha1, hb0, hb1, he, e0, e1, g0, g1]
theorem eq_spair (a0 a1 b0 b1 : Int) (w : World) :
    Sem.run Try.prog (Op.equalIn 10000 52 (.agg #[.int .u64 a0, .int .u64 a1]) (.agg #[.int .u64 b0, .int .u64 b1])) w = .ok (a0 == b0 && a1 == b1) w := by
  rw [show (10000 : Nat) = 9999 + 1 from rfl, run_equalIn_struct w 9999 52 _ _ Try.underlying52 (by kernel_rfl)]
  have hf : (Try.prog.fieldsOf 52).toList.map (fun f => (f.name, f.type, f.offset)) = [("K", 36, 0), ("V", 36, 1)] := by kernel_rfl
  obtain ⟨f0, f1, hl, g0, g1⟩ := fields2e hf
  have he := fun (a b : Int) w => run_equalIn_int (P := Try.prog) w 9998 36 .u64 .u64 a b Try.underlying36
  have ha0 : ∀ w, Sem.run Try.prog (part 36 #[Value.int IntKind.u64 a0, Value.int IntKind.u64 a1] 0) w = .ok (.int .u64 a0) w := fun w => part_u64 _ 0 _ rfl w
  have ha1 : ∀ w, Sem.run Try.prog (part 36 #[Value.int IntKind.u64 a0, Value.int IntKind.u64 a1] 1) w = .ok (.int .u64 a1) w := fun w => part_u64 _ 1 _ rfl w
  have hb0 : ∀ w, Sem.run Try.prog (part 36 #[Value.int IntKind.u64 b0, Value.int IntKind.u64 b1] 0) w = .ok (.int .u64 b0) w := fun w => part_u64 _ 0 _ rfl w
  have hb1 : ∀ w, Sem.run Try.prog (part 36 #[Value.int IntKind.u64 b0, Value.int IntKind.u64 b1] 1) w = .ok (.int .u64 b1) w := fun w => part_u64 _ 1 _ rfl w
  rw [hl]
  simp only at g0 g1
  cases e0 : (a0 == b0) <;> cases e1 : (a1 == b1) <;>
    simp [Op.eqFields, Sem.run_bind, ha0, ha1, hb0, hb1, he, e0, e1, g0, g1]
set_option maxHeartbeats 1000000 in
theorem requal_any (ao bo : Option Addr) (us : List Pr) (n ca cb : Nat) (w : World) (hn : n = us.length) (ha : SlP w ao us) (hb : SlP w bo us) (hl : n ≤ 1000) :
    Calls Try.prog 12 #[.slice ao n ca, .slice bo n cb] w fun o w' => o = .returned (.bool true) ∧ Kept [] w w' := by
  have HN : Hid _ := hn
  clear hn
  go_enter Try.func12, Try.ntmps12
  go_wp2
  go_loopw [5] (fun i wr => ∃ k : Nat, k ≤ n ∧ i = .int .i64 k ∧ Kept [] w wr) (fun i _ => n - (intOf i).toNat)
  case atStart => exact ⟨0, Nat.zero_le _, rfl, Kept.refl _ _⟩
  case round =>
    obtain ⟨k, hk, rfl, K⟩ := hrel
    by_cases hlt : k < n
    · have hka : k < us.length := by have := HN.out; omega
      obtain ⟨b1, o1, rfl, _, c0, c1⟩ := SlP.row (ha.new K) hka
      obtain ⟨b2, o2, rfl, _, d0, d1⟩ := SlP.row (hb.new K) hka
      generalize us.getD k default = x at c0 c1 d0 d1
      have heq := eq_rpair x.k x.v x.k x.v
      simp only [beq_self_eq_true, Bool.and_self] at heq
      go_wp2_with fail
      go_quiet (fail)
      go_wp2
      go_roundw
      case rel => exact ⟨k + 1, by omega, by go_num, K.drewN _⟩
      case measure => simp [intOf]; omega
    · go_wp2
      go_ret
      exact ⟨rfl, K⟩
end Go.Proofs.Ytapbkonfjieadaa.Q
