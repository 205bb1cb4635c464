/-
  Rows of entries: turned from the document's into the program's and back.
-/
import Derived.Test.YtheheepblkhfaaaCEnt
namespace Go.Proofs.Ytheheepblkhfaaa
set_option maxRecDepth 100000
open Go.RowKit
open Go.Deep
set_option maxHeartbeats 1000000 in
theorem news_any (ao : Option Addr) (es : List Ent) (n cap : Nat) (w : World) (hn : n = es.length) (hs : SlE w ao es) (hl : n ≤ 1000) :
    Calls Try.prog 12 #[.slice ao n cap] w fun o w' => ∃ bo c', o = .returned (.slice bo n c') ∧ SlE w' bo es ∧ n ≤ c' ∧ (bo = none → c' = 0) ∧ Kept [] w w' := by
  have HN : Hid _ := hn
  clear hn
  go_enter Try.func12, Try.ntmps12
  go_wp2
  go_loopw [3, 8] (fun o i wr => ∃ k : Nat, k ≤ n ∧ i = .int .i64 k ∧ OwnE wr w.heap.size 28 o (es.take k) ∧ Kept [] w wr) (fun _ i _ => n - (intOf i).toNat)
  case atStart => exact ⟨0, Nat.zero_le _, rfl, OwnE.nil _ _ _, Kept.refl _ _⟩
  case round =>
    obtain ⟨k, hk, rfl, O, K⟩ := hrel
    by_cases hlt : k < n
    · have hkx : k < es.length := by have := HN.out; omega
      obtain ⟨b1, o1, rfl, _, c0, c1, c2⟩ := (hs.new K).row hkx
      have ht := take_next hkx default
      generalize es.getD k default = x at c0 c1 c2 ht
      have K1 : Kept [] wr (wr.alloc (.cells #[.int .u64 x.n, .int .u64 x.b, .int .u64 x.r] 24)) := (Kept.refl _ _).alloc _
      obtain ⟨g, cp, w1, hap, O1, _, K2⟩ := append_ent 31 Try.underlying31 info_cent _ w.heap.size (wr.heap.size + 1) _ (es.take k) x (nblk_alloc _ _) (O.new K1) (by have := K.size; have := K1.size; omega) (by rw [List.length_take]; omega)
      rw [← ht] at O1
      have T1 := (K.trans K1).ofOwn (O.new K1) (Nat.le_refl _) K2
      have hlen : (es.take k).length + 1 = k + 1 := by rw [List.length_take]; omega
      rw [hlen] at hap O1
      have HO : Hid _ := And.intro O1 T1
      clear O1 T1 K2 O K K1 ht hlen
      go_wp2_with (at_builtin; refine wpList_append_run rfl (.tmp 12) (.tmp 14) 31 rfl rfl rfl hap ?_)
      clear hap
      exact ⟨⟨k + 1, by omega, by go_num, HO.out.1, HO.out.2⟩, by simp [intOf]; omega⟩
    · have e2 : es.take k = es := List.take_of_length_le (by have := HN.out; omega)
      rw [e2] at O
      obtain ⟨bo, c', rfl, S, hle, hc⟩ := O.shape
      rw [← HN.out] at hle ⊢
      go_wp2
      go_ret
      exact ⟨bo, c', rfl, S, hle, hc, K⟩
set_option maxHeartbeats 1000000 in
theorem olds_any (ao : Option Addr) (es : List Ent) (n cap : Nat) (w : World) (hn : n = es.length) (hs : SlE w ao es) (hl : n ≤ 1000) :
    Calls Try.prog 15 #[.slice ao n cap] w fun o w' => ∃ bo c', o = .returned (.slice bo n c') ∧ SlE w' bo es ∧ n ≤ c' ∧ (bo = none → c' = 0) ∧ Kept [] w w' := by
  have HN : Hid _ := hn
  clear hn
  go_enter Try.func15, Try.ntmps15
  go_wp2
  go_loopw [3, 8] (fun o i wr => ∃ k : Nat, k ≤ n ∧ i = .int .i64 k ∧ OwnE wr w.heap.size 24 o (es.take k) ∧ Kept [] w wr) (fun _ i _ => n - (intOf i).toNat)
  case atStart => exact ⟨0, Nat.zero_le _, rfl, OwnE.nil _ _ _, Kept.refl _ _⟩
  case round =>
    obtain ⟨k, hk, rfl, O, K⟩ := hrel
    by_cases hlt : k < n
    · have hkx : k < es.length := by have := HN.out; omega
      obtain ⟨b1, o1, rfl, _, c0, c1, c2⟩ := (hs.new K).row hkx
      have ht := take_next hkx default
      generalize es.getD k default = x at c0 c1 c2 ht
      have K1 : Kept [] wr (wr.alloc (.cells #[.int .u64 x.n, .int .u64 x.b, .int .u64 x.r] 28)) := (Kept.refl _ _).alloc _
      obtain ⟨g, cp, w1, hap, O1, _, K2⟩ := append_ent 30 Try.underlying30 info_ent _ w.heap.size (wr.heap.size + 1) _ (es.take k) x (nblk_alloc _ _) (O.new K1) (by have := K.size; have := K1.size; omega) (by rw [List.length_take]; omega)
      rw [← ht] at O1
      have T1 := (K.trans K1).ofOwn (O.new K1) (Nat.le_refl _) K2
      have hlen : (es.take k).length + 1 = k + 1 := by rw [List.length_take]; omega
      rw [hlen] at hap O1
      have HO : Hid _ := And.intro O1 T1
      clear O1 T1 K2 O K K1 ht hlen
      go_wp2_with (at_builtin; refine wpList_append_run rfl (.tmp 12) (.tmp 14) 30 rfl rfl rfl hap ?_)
      clear hap
      exact ⟨⟨k + 1, by omega, by go_num, HO.out.1, HO.out.2⟩, by simp [intOf]; omega⟩
    · have e2 : es.take k = es := List.take_of_length_le (by have := HN.out; omega)
      rw [e2] at O
      obtain ⟨bo, c', rfl, S, hle, hc⟩ := O.shape
      rw [← HN.out] at hle ⊢
      go_wp2
      go_ret
      exact ⟨bo, c', rfl, S, hle, hc, K⟩
end Go.Proofs.Ytheheepblkhfaaa
