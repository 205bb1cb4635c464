/-
  What the laws of machines over a world's words share: the document's words as a whole row, blocks that a function begins with, a world of any words and the document's beside it.
-/
import Derived.Test.YtgafmklfpiipcaaGreatDoorRw
import Derived.Test.YtgafmklfpiipcaaGreatDoorMMem
import Derived.Test.YtgafmklfpiipcaaGreatDoorMRef
import Derived.Test.YtgafmklfpiipcaaGreatDoorMRef1
import Derived.Test.YtgafmklfpiipcaaGreatDoorMRef5
import Derived.Test.YtgafmklfpiipcaaGreatDoorMNewR
import Derived.Test.YtgafmklfpiipcaaGreatDoorMSame
namespace Go.Proofs.YtgafmklfpiipcaaGreatDoor
open Go.RowKit (Grown Hid Below)
open Go.Deep
namespace K
set_option maxRecDepth 100000
def rmA (c : Cfg) (ao : Option Addr) (n cap : Nat) (cnt : Int) (a : Acc) : Array Value := #[.int .i64 c.t, .int .i64 c.s, .int .i64 c.c, .int .i64 c.h, .int .i64 c.k, .int .i64 c.e, .int .i64 c.l, .slice ao n cap, .int .i64 cnt, .int .i64 a.k, .int .i64 a.c, .int .u64 a.v, .int .u64 a.o, .int .u64 a.n, .bool a.d]
theorem isT_rm : IsT 35 15 := ⟨by kernel_rfl, _, Tryz.underlying35⟩
theorem rm_one (c : Cfg) (ao : Option Addr) (n cap : Nat) (cnt : Int) (a : Acc) : (rmA c ao n cap cnt a).all (·.oneCell') = true := by simp [rmA, Value.oneCell']
def rmZ : Array Value := #[.int .i64 0, .int .i64 0, .int .i64 0, .int .i64 0, .int .i64 0, .int .i64 0, .int .i64 0, .slice none 0 0, .int .i64 0, .int .i64 0, .int .i64 0, .int .u64 0, .int .u64 0, .int .u64 0, .bool false]
theorem rmZ_one : rmZ.all (·.oneCell') = true := by simp [rmZ, Value.oneCell']
/-- The document's words, as a value whose row lies where it did, or anew. -/
def Wv (w : World) (g : Nat) (c : Cfg) (n : Nat) (cs : List Int) (cnt : Int) (a : Acc) (A : Array Value) (V : World) : Prop := ∃ g' c', A = rmA c (some ⟨g', 0, none⟩) n c' cnt a ∧ (g' = g ∨ w.heap.size ≤ g') ∧ RowR V g' cs c'
theorem rowR_far {w w' V W : World} {l : List Nat} {g g' c' : Nat} {cs : List Int} (h : RowR w' g' cs c') (k : Kept l w' V) (hl : ∀ x ∈ l, w.heap.size ≤ x ∧ x < W.heap.size) (hg : g < w.heap.size) (e : g' = g ∨ W.heap.size ≤ g') : RowR V g' cs c' :=
  h.kept k (fun hx => by have := hl _ hx; rcases e with rfl | e <;> omega)
theorem two_new (T1 T2 : TypeId) (w : World) (A B : Array Value) {b : Nat} (hb : b = w.heap.size) : RW T1 ((w.alloc (.cells A T1)).alloc (.cells B T2)) b A ∧ RW T2 ((w.alloc (.cells A T1)).alloc (.cells B T2)) (b + 1) B ∧ Kept [] w ((w.alloc (.cells A T1)).alloc (.cells B T2)) := by
  subst hb
  refine ⟨(RW.new _ _ _).up _, ?_, ((Kept.refl [] w).alloc _).alloc _⟩
  have z := RW.new T2 (w.alloc (.cells A T1)) B; rw [nblk_alloc] at z; exact z
theorem three_new (T1 T2 T3 : TypeId) (w : World) (A B C : Array Value) {b : Nat} (hb : b = w.heap.size) : RW T1 (((w.alloc (.cells A T1)).alloc (.cells B T2)).alloc (.cells C T3)) b A ∧ RW T2 (((w.alloc (.cells A T1)).alloc (.cells B T2)).alloc (.cells C T3)) (b + 1) B ∧ RW T3 (((w.alloc (.cells A T1)).alloc (.cells B T2)).alloc (.cells C T3)) (b + 1 + 1) C ∧ Kept [] w (((w.alloc (.cells A T1)).alloc (.cells B T2)).alloc (.cells C T3)) := by
  subst hb
  refine ⟨((RW.new _ _ _).up _).up _, ?_, ?_, (((Kept.refl [] w).alloc _).alloc _).alloc _⟩
  · have z := (RW.new T2 (w.alloc (.cells A T1)) B).up (.cells C T3); rw [nblk_alloc] at z; exact z
  · have z := RW.new T3 ((w.alloc (.cells A T1)).alloc (.cells B T2)) C; rw [nblk_alloc, nblk_alloc] at z; exact z
theorem range_rm0 {w : World} {b n cap g : Nat} {c : Cfg} {cnt : Int} {a : Acc} (h : RW 35 w b (rmA c (some ⟨g, 0, none⟩) n cap cnt a)) : w.rangeAt b 0 [.int .i64 c.t, .int .i64 c.s, .int .i64 c.c, .int .i64 c.h, .int .i64 c.k, .int .i64 c.e, .int .i64 c.l] := fun j v hv => by
  refine cell_of_blk h ?_
  rw [Nat.zero_add]
  rcases j with _ | _ | _ | _ | _ | _ | _ | j
  all_goals first | exact hv | simp at hv
theorem range_rm7 {w : World} {b n cap g : Nat} {c : Cfg} {cnt : Int} {a : Acc} (h : RW 35 w b (rmA c (some ⟨g, 0, none⟩) n cap cnt a)) : w.rangeAt b 7 [.slice (some ⟨g, 0, none⟩) n cap, .int .i64 cnt, .int .i64 a.k, .int .i64 a.c, .int .u64 a.v, .int .u64 a.o, .int .u64 a.n, .bool a.d] := fun j v hv => by
  refine cell_of_blk h ?_
  rw [Nat.add_comm]
  rcases j with _ | _ | _ | _ | _ | _ | _ | _ | j
  all_goals first | exact hv | simp at hv
def Wds (cs : List Int) : Prop := ∀ x ∈ cs, 0 ≤ x ∧ x < 18446744073709551616
theorem wd_getD {cs : List Int} (h : Wds cs) (n : Nat) : 0 ≤ cs.getD n 0 ∧ cs.getD n 0 < 18446744073709551616 := by
  by_cases hn : n < cs.length
  · rw [List.getD_eq_getElem?_getD, List.getElem?_eq_getElem hn]; exact h _ (List.getElem_mem hn)
  · rw [List.getD_eq_getElem?_getD, List.getElem?_eq_none (by omega)]; decide
theorem clV_load (cs : List Int) (x old v : Int) : clV cs 1 x old v = cs := by
  unfold clV; split
  · rename_i h
    have e : bhV 1 (cs.getD x.toNat 0) old v = cs.getD x.toNat 0 := by simp [bhV]
    rw [e]
    have hx : x.toNat < cs.length := by unfold hasC at h; omega
    rw [List.getD_eq_getElem?_getD, List.getElem?_eq_getElem hx]; simp
  · rfl
theorem wpList_load_rwg {ops : Array Oper} {rest : List Oper} {o : Oper} {a : Act} {w : World} {Q : Exit → Act → World → Prop} (T : TypeId) {n : Nat} (hT : IsT T n) (hw : Region.wanted o (yielded ops a.tmps) = true) (x : Operand) (ho : o.op = .load T x)
    (b : Nat) (hx : a.eval x = .pointer (some ⟨b, 0, none⟩)) (A : Array Value) (hA : A.size = n) (hb : RW T w b A) (h : wpList Tryz.prog ops Q rest (a.put o.dst (.agg A)) w) : wpList Tryz.prog ops Q (o :: rest) a w := by
  obtain ⟨fs, hu⟩ := hT.2
  refine wpList_step fun K hK => ?_
  rw [if_pos hw]
  exact wp_load_row T x ho b hx T A (0, 0) _ hb hu rfl (by rw [hT.1, hA]) (hK _ _ h)
theorem isT_cf : IsT 23 7 := ⟨by kernel_rfl, _, Tryz.underlying23⟩
theorem row_ne_bk {w : World} {m p r g : Nat} {c : Cfg} {cs xs : List Int} {cnt : Int} {a : Acc} {cap : Nat} (hM : Mm w m p r c cs cnt a) (hR : RowR w g xs cap) : ¬ g = p ∧ ¬ g = m := by
  obtain ⟨rest, z, _⟩ := hR
  exact ⟨fun e => by rw [e, hM.bk.st] at z; simp at z, fun e => by rw [e, hM.st] at z; simp at z⟩
/-- There is a world of these words. -/
def IsW (c : Cfg) (n : Nat) : Prop := riB c = true ∧ (n : Int) = lnV c ∧ n ≤ 400
theorem kof_no (c : Cfg) (ao : Option Addr) (n cap : Nat) (w : World) (h : ¬ IsW c n) :
    Calls Tryz.prog 4 #[.agg #[.int .i64 c.t, .int .i64 c.s, .int .i64 c.c, .int .i64 c.h, .int .i64 c.k, .int .i64 c.e, .int .i64 c.l], .slice ao n cap] w fun e w' => e = .returned (.tuple #[.pointer none, .agg rmZ, .bool false]) ∧ Kept [] w w' := by
  by_cases h1 : riB c = true
  · by_cases h2 : (n : Int) = lnV c
    · exact lof_big c ao n cap w h1 h2 (by have : ¬ n ≤ 400 := fun h3 => h ⟨h1, h2, h3⟩; omega)
    · exact lof_len c ao n cap w h1 _ rfl (by simpa using h2)
  · exact lof_wrong c ao n cap w (by simpa using h1)
theorem kof_yes (c : Cfg) (ao : Option Addr) (xs : List Int) (n cap : Nat) (w : World) (h : IsW c n) (hx : n = xs.length) (hs : Sl w ao xs) (hc : ao = none → cap = 0) :
    Calls Tryz.prog 4 #[.agg #[.int .i64 c.t, .int .i64 c.s, .int .i64 c.c, .int .i64 c.h, .int .i64 c.k, .int .i64 c.e, .int .i64 c.l], .slice ao n cap] w fun e w' => ∃ m p r g c', e = .returned (.tuple #[.pointer (some ⟨m, 0, none⟩), .agg (rmA c (some ⟨g, 0, none⟩) n c' 0 Acc.zero), .bool true]) ∧ (w.heap.size ≤ m ∧ w.heap.size ≤ p ∧ w.heap.size ≤ r ∧ w.heap.size ≤ g ∧ ¬ g = r) ∧ Mm w' m p r c xs 0 Acc.zero ∧ RowR w' g xs c' ∧ Kept [] w w' :=
  lof_yes c ao xs n cap w h.1 h.2.1 h.2.2 hx hs hc
theorem wds_of {xs : List Int} (h : ∀ x ∈ xs, isWord x) : Wds xs := fun x hx => by
  have := bounds_u64 (h x hx); omega
/-- The law's sameness, of the same words. -/
theorem ksame_any (m p r g : Nat) (c0 c : Cfg) (cs : List Int) (cnt : Int) (a : Acc) (n cap : Nat) (w : World) (hM : Mm w m p r c0 cs cnt a) (hR : RowR w g cs cap) (hn : n = cs.length) (hl : n ≤ 17592186044415) :
    Calls Tryz.prog 14 #[.pointer (some ⟨m, 0, none⟩), .agg (rmA c (some ⟨g, 0, none⟩) n cap cnt a)] w fun e w' => e = .returned (.bool true) ∧ Kept [] w w' := msame_any m p r c0 c cs cnt a g n cap w hM hR hn hl
end K
end Go.Proofs.YtgafmklfpiipcaaGreatDoor
