/-
  The document's own rows: those that are covered, or those that are not; how often an entry is among some.
-/
import Derived.Test.YtheheepblkhfaaaCRef
import Derived.Test.YtheheepblkhfaaaCEq
namespace Go.Proofs.Ytheheepblkhfaaa
set_option maxRecDepth 100000
open Go.RowKit
open Go.Deep
theorem filter_next' {p : Ent → Bool} {l : List Ent} {k : Nat} (h : k < l.length) : (l.take (k + 1)).filter p = (l.take k).filter p ++ (if p (l.getD k default) then [l.getD k default] else []) := by
  rw [take_next h default, List.filter_append]
  congr 1
  by_cases h : p (l.getD k default) = true
  · rw [if_pos h, List.filter_cons_of_pos h, List.filter_nil]
  · rw [if_neg h, List.filter_cons_of_neg h, List.filter_nil]
theorem take_filter_le' (p : Ent → Bool) (l : List Ent) (k : Nat) : ((l.take k).filter p).length ≤ k := by
  have := List.length_filter_le p (l.take k); have : (l.take k).length ≤ k := by rw [List.length_take]; omega
  omega
set_option maxHeartbeats 1000000 in
theorem rsplit_any (c : Bool) (ao : Option Addr) (xs : List Int) (n cap : Nat) (bo : Option Addr) (es : List Ent) (m cb : Nat) (w : World)
    (hn : n = xs.length) (hs : Sl w ao xs) (hl : n ≤ 17592186044415) (hm : m = es.length) (he : SlE w bo es) (hk : m ≤ 1000) :
    Calls Try.prog 16 #[.slice bo m cb, .slice ao n cap, .bool c] w fun o w' => ∃ a1 c1, o = .returned (.slice a1 (es.filter (fun e => cvB e xs == c)).length c1) ∧ SlE w' a1 (es.filter (fun e => cvB e xs == c)) ∧ Kept [] w w' := by
  have HM : Hid _ := hm
  have HC : Hid (∀ (e : Ent) (W : World), Kept [] w W → Calls Try.prog 11 #[.agg #[.int .u64 e.n, .int .u64 e.b, .int .u64 e.r], .slice ao n cap] W fun o w' => o = .returned (.bool (cvB e xs)) ∧ Kept [] W w') :=
    fun e W k => rcovered_any e ao xs n cap W hn (hs.new k) hl
  clear hm hn hs
  go_enter Try.func16, Try.ntmps16
  go_wp2
  go_loopw [7, 8] (fun u i wr => ∃ k : Nat, k ≤ m ∧ i = .int .i64 k ∧ OwnE wr w.heap.size 24 u ((es.take k).filter (fun e => cvB e xs == c)) ∧ Kept [] w wr) (fun _ i _ => m - (intOf i).toNat)
  case atStart => exact ⟨0, Nat.zero_le _, rfl, OwnE.nil _ _ _, Kept.refl _ _⟩
  case round =>
    obtain ⟨k, hk, rfl, U, K⟩ := hrel
    by_cases hlt : k < m
    · have hkx : k < es.length := by have := HM.out; omega
      obtain ⟨b1, o1, rfl, hb1, c0, c1, c2⟩ := (he.new K).row hkx
      have f1 := filter_next' (p := fun e => cvB e xs == c) hkx
      have l1 := take_filter_le' (fun e => cvB e xs == c) es k
      generalize es.getD k default = x at c0 c1 c2 f1
      have hc := HC.out x _ K
      cases hq : (cvB x xs == c) with
      | true =>
        rw [if_pos (by simpa using hq)] at f1
        go_wp2_with fail
        refine hc.mono ?_
        rintro o w1 ⟨rfl, K2⟩
        have U2 := U.new K2
        have T2 := K.trans K2
        have q0 := same_at K2 c0
        have q1 := same_at K2 c1
        have q2 := same_at K2 c2
        obtain ⟨g, cp, w2, hap, O3, hat, K3⟩ := append_ent 30 Try.underlying30 info_ent w1 w.heap.size w1.heap.size _ _ x rfl U2 T2.size (by omega)
        rw [← f1] at O3
        have T3 := T2.ofOwn U2 (Nat.le_refl _) K3
        have HO : Hid _ := And.intro O3 T3
        clear O3 T3 K3 T2 U2 U K K2 f1 hat hc c0 c1 c2
        generalize cvB x xs = d at hq
        have hq' : d = c := by simpa using hq
        subst hq'
        go_wp2_with (at_builtin; refine wpList_append_run rfl (.tmp 23) (.tmp 28) 30 rfl rfl rfl hap ?_)
        clear hap
        exact ⟨⟨k + 1, by omega, by go_num, HO.out.1, HO.out.2⟩, by simp [intOf]; omega⟩
      | false =>
        rw [if_neg (by simpa using hq), List.append_nil] at f1
        rw [← f1] at U
        clear f1
        go_wp2_with fail
        refine hc.mono ?_
        rintro o w1 ⟨rfl, K2⟩
        clear hc c0 c1 c2
        generalize cvB x xs = d at hq
        go_wp2
        exact ⟨⟨k + 1, by omega, by go_num, U.new K2, K.trans K2⟩, by simp [intOf]; omega⟩
    · have e2 : es.take k = es := List.take_of_length_le (by have := HM.out; omega)
      rw [e2] at U
      obtain ⟨a1, c1, rfl, S, _⟩ := U.shape
      go_wp2
      go_ret
      exact ⟨a1, c1, rfl, S, K⟩
end Go.Proofs.Ytheheepblkhfaaa
