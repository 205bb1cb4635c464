/-
  The contracts of package cover: those that are covered, and those that are not.
-/
import Derived.Test.YtheheepblkhfaaaCCov
namespace Go.Proofs.Ytheheepblkhfaaa
set_option maxRecDepth 100000
open Go.RowKit
open Go.Deep
theorem asks_any (e : Ent) (B : Nat) (ao : Option Addr) (xs : List Int) (n cap : Nat) (w : World) (hB : w.heap[B]? = some (.cells #[.slice ao n cap] 25 (0, 0))) (hn : n = xs.length) (hs : Sl w ao xs) (hl : n ≤ 17592186044415) :
    Calls Try.prog 23 #[.agg #[.int .u64 e.n, .int .u64 e.b, .int .u64 e.r], .pointer (some ⟨B, 0, none⟩)] w fun o w' => o = .returned (.bool (cvB e xs)) ∧ Kept [] w w' := by
  have K : Kept [] w (w.alloc (.cells #[.int .u64 e.n, .int .u64 e.b, .int .u64 e.r] 28)) := (Kept.refl _ _).alloc _
  have hc := covered_any e ao xs n cap _ hn (hs.new K) hl
  have q := cell_of_blk (K.blk hB (by simp)) (i := 0) rfl
  clear hn hs hB
  go_enter Try.func23, Try.ntmps23
  go_wp2_with fail
  refine hc.mono ?_
  rintro o w1 ⟨rfl, K1⟩
  go_wp2
  go_ret
  exact ⟨rfl, K.trans K1⟩
/-- Two rows of their own lie apart. -/
def Apart (u v : Value) : Prop := ∀ g, u.ownBlock = some g → v.ownBlock = some g → False
theorem Apart.left {w : World} {base T g : Nat} {u v : Value} {es : List Ent} (A : Apart u v) (V : OwnE w base T v es) (hat : u.ownBlock = some g ∨ w.heap.size ≤ g) (n c : Nat) : Apart (.slice (some ⟨g, 0, none⟩) n c) v := by
  intro g' h1 h2
  cases h1
  rcases hat with h | h
  · exact A g h h2
  · have := (V.base g h2).2; omega
theorem Apart.right {w : World} {base T g : Nat} {u v : Value} {es : List Ent} (A : Apart u v) (U : OwnE w base T u es) (hat : v.ownBlock = some g ∨ w.heap.size ≤ g) (n c : Nat) : Apart u (.slice (some ⟨g, 0, none⟩) n c) := by
  intro g' h2 h1
  cases h1
  rcases hat with h | h
  · exact A g h2 h
  · have := (U.base g h2).2; omega
theorem filter_next {p : Ent → Bool} {l : List Ent} {k : Nat} (h : k < l.length) : (l.take (k + 1)).filter p = (l.take k).filter p ++ (if p (l.getD k default) then [l.getD k default] else []) := by
  rw [take_next h default, List.filter_append]
  congr 1
  by_cases h : p (l.getD k default) = true
  · rw [if_pos h, List.filter_cons_of_pos h, List.filter_nil]
  · rw [if_neg h, List.filter_cons_of_neg h, List.filter_nil]
theorem take_filter_le (p : Ent → Bool) (l : List Ent) (k : Nat) : ((l.take k).filter p).length ≤ k := by
  have := List.length_filter_le p (l.take k); have : (l.take k).length ≤ k := by rw [List.length_take]; omega
  omega
set_option maxHeartbeats 1000000 in
theorem apart_any (B : Nat) (ao : Option Addr) (xs : List Int) (n cap : Nat) (bo : Option Addr) (es : List Ent) (m cb : Nat) (w : World) (hB : w.heap[B]? = some (.cells #[.slice ao n cap] 25 (0, 0)))
    (hn : n = xs.length) (hs : Sl w ao xs) (hl : n ≤ 17592186044415) (hm : m = es.length) (he : SlE w bo es) (hk : m ≤ 1000) :
    Calls Try.prog 22 #[.slice bo m cb, .func (.func 23) #[] #[.pointer (some ⟨B, 0, none⟩)]] w fun o w' => ∃ u v, o = .returned (.tuple #[u, v]) ∧
      OwnE w' w.heap.size 28 u (es.filter (fun e => cvB e xs)) ∧ OwnE w' w.heap.size 28 v (es.filter (fun e => !cvB e xs)) ∧ Kept [] w w' := by
  have HM : Hid _ := hm
  have HC : Hid (∀ (e : Ent) (W : World), Kept [] w W → Calls Try.prog 23 #[.agg #[.int .u64 e.n, .int .u64 e.b, .int .u64 e.r], .pointer (some ⟨B, 0, none⟩)] W fun o w' => o = .returned (.bool (cvB e xs)) ∧ Kept [] W w') :=
    fun e W k => asks_any e B ao xs n cap W (k.blk hB (by simp)) hn (hs.new k) hl
  clear hm hn hs hB
  go_enter Try.func22, Try.ntmps22
  go_wp2
  go_loopw [4, 5, 10] (fun u v i wr => ∃ k : Nat, k ≤ m ∧ i = .int .i64 k ∧ OwnE wr w.heap.size 28 u ((es.take k).filter (fun e => cvB e xs)) ∧ OwnE wr w.heap.size 28 v ((es.take k).filter (fun e => !cvB e xs)) ∧ Apart u v ∧ Kept [] w wr) (fun _ _ i _ => m - (intOf i).toNat)
  case atStart => exact ⟨0, Nat.zero_le _, rfl, OwnE.nil _ _ _, OwnE.nil _ _ _, (by intro g h; cases h), Kept.refl _ _⟩
  case round =>
    obtain ⟨k, hk, rfl, U, V, A, K⟩ := hrel
    by_cases hlt : k < m
    · have hkx : k < es.length := by have := HM.out; omega
      obtain ⟨b1, o1, rfl, _, c0, c1, c2⟩ := (he.new K).row hkx
      have f1 := filter_next (p := fun e => cvB e xs) hkx
      have f2 := filter_next (p := fun e => !cvB e xs) hkx
      have l1 := take_filter_le (fun e => cvB e xs) es k
      have l2 := take_filter_le (fun e => !cvB e xs) es k
      generalize es.getD k default = x at c0 c1 c2 f1 f2
      have K1 : Kept [] wr (wr.alloc (.cells #[.int .u64 x.n, .int .u64 x.b, .int .u64 x.r] 28)) := (Kept.refl _ _).alloc _
      have Z1 := blk_alloc_new wr (.cells #[.int .u64 x.n, .int .u64 x.b, .int .u64 x.r] 28)
      have hc := HC.out x _ (K.trans K1)
      cases hq : cvB x xs with
      | true =>
        rw [hq] at hc
        rw [if_pos (by simp [hq])] at f1
        rw [if_neg (by simp [hq]), List.append_nil] at f2
        go_wp2_with fail
        refine hc.mono ?_
        rintro o w1 ⟨rfl, K2⟩
        have Z := K2.blk Z1 (by simp)
        have T2 := (K.trans K1).trans K2
        have U2 := (U.new K1).new K2
        have V2 := (V.new K1).new K2
        obtain ⟨g, cp, w2, hap, O3, hat, K3⟩ := append_ent 31 Try.underlying31 info_cent w1 w.heap.size w1.heap.size _ _ x rfl U2 T2.size (by omega)
        rw [← f1] at O3
        have P3 := V2.kept K3 (fun g' h' hm' => by have h9 := Option.mem_toList.1 hm'; exact A g' h9 h')
        rw [← f2] at P3
        have A3 := A.left V2 hat (((es.take k).filter (fun e => cvB e xs)).length + 1) cp
        have T3 := T2.ofOwn U2 (Nat.le_refl _) K3
        have HO : Hid _ := And.intro O3 (And.intro P3 (And.intro A3 T3))
        have q0 := cell_of_blk Z (i := 0) rfl
        have q1 := cell_of_blk Z (i := 1) rfl
        have q2 := cell_of_blk Z (i := 2) rfl
        clear O3 P3 A3 T3 K3 T2 U2 V2 U V A K K1 K2 Z Z1 f1 f2 hat hc
        go_wp2_with (at_builtin; refine wpList_append_run rfl (.tmp 17) (.tmp 19) 31 rfl rfl rfl hap ?_)
        clear hap
        exact ⟨⟨k + 1, by omega, by go_num, HO.out.1, HO.out.2.1, HO.out.2.2.1, HO.out.2.2.2⟩, by simp [intOf]; omega⟩
      | false =>
        rw [hq] at hc
        rw [if_pos (by simp [hq])] at f2
        rw [if_neg (by simp [hq]), List.append_nil] at f1
        go_wp2_with fail
        refine hc.mono ?_
        rintro o w1 ⟨rfl, K2⟩
        have Z := K2.blk Z1 (by simp)
        have T2 := (K.trans K1).trans K2
        have U2 := (U.new K1).new K2
        have V2 := (V.new K1).new K2
        obtain ⟨g, cp, w2, hap, O3, hat, K3⟩ := append_ent 31 Try.underlying31 info_cent w1 w.heap.size w1.heap.size _ _ x rfl V2 T2.size (by omega)
        rw [← f2] at O3
        have P3 := U2.kept K3 (fun g' h' hm' => by have h9 := Option.mem_toList.1 hm'; exact A g' h' h9)
        rw [← f1] at P3
        have A3 := A.right U2 hat (((es.take k).filter (fun e => !cvB e xs)).length + 1) cp
        have T3 := T2.ofOwn V2 (Nat.le_refl _) K3
        have HO : Hid _ := And.intro O3 (And.intro P3 (And.intro A3 T3))
        have q0 := cell_of_blk Z (i := 0) rfl
        have q1 := cell_of_blk Z (i := 1) rfl
        have q2 := cell_of_blk Z (i := 2) rfl
        clear O3 P3 A3 T3 K3 T2 U2 V2 U V A K K1 K2 Z Z1 f1 f2 hat hc
        go_wp2_with (at_builtin; refine wpList_append_run rfl (.tmp 21) (.tmp 23) 31 rfl rfl rfl hap ?_)
        clear hap
        exact ⟨⟨k + 1, by omega, by go_num, HO.out.2.1, HO.out.1, HO.out.2.2.1, HO.out.2.2.2⟩, by simp [intOf]; omega⟩
    · have e2 : es.take k = es := List.take_of_length_le (by have := HM.out; omega)
      rw [e2] at U V
      go_wp2
      go_ret2
      exact ⟨_, _, rfl, U, V, K⟩
set_option maxHeartbeats 1000000 in
theorem split_any (ao : Option Addr) (xs : List Int) (n cap : Nat) (bo : Option Addr) (es : List Ent) (m cb : Nat) (w : World) (hn : n = xs.length) (hs : Sl w ao xs) (hl : n ≤ 17592186044415) (hm : m = es.length) (he : SlE w bo es) (hk : m ≤ 1000) :
    Calls Try.prog 13 #[.slice bo m cb, .slice ao n cap] w fun o w' => ∃ a1 c1 a2 c2, o = .returned (.tuple #[.slice a1 (es.filter (fun e => cvB e xs)).length c1, .slice a2 (es.filter (fun e => !cvB e xs)).length c2]) ∧
      SlE w' a1 (es.filter (fun e => cvB e xs)) ∧ SlE w' a2 (es.filter (fun e => !cvB e xs)) ∧ Kept [] w w' := by
  have K : Kept [] w (w.alloc (.cells #[.slice ao n cap] 25)) := (Kept.refl _ _).alloc _
  have hc := apart_any w.heap.size ao xs n cap bo es m cb _ (blk_alloc_new w _) hn (hs.new K) hl hm (he.new K) hk
  clear hn hm hs he
  go_enter Try.func13, Try.ntmps13
  go_wp2_with fail
  refine hc.mono ?_
  rintro o w1 ⟨u, v, rfl, U, V, K1⟩
  obtain ⟨a1, c1, rfl, S1, _⟩ := U.shape
  obtain ⟨a2, c2, rfl, S2, _⟩ := V.shape
  go_wp2
  go_ret2
  exact ⟨a1, c1, a2, c2, rfl, S1, S2, K.trans K1⟩
end Go.Proofs.Ytheheepblkhfaaa
