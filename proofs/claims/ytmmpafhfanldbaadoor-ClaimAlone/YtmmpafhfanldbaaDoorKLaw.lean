/-
  What the laws of claim share: a world of any words, and the document's beside it.
-/
import Derived.Test.YtmmpafhfanldbaaDoorKAlive
import Derived.Test.YtmmpafhfanldbaaDoorKRel
import Derived.Test.YtmmpafhfanldbaaDoorKPoked
import Derived.Test.YtmmpafhfanldbaaDoorMSame
namespace Go.Proofs.YtmmpafhfanldbaaDoor
open Go.RowKit (Grown Hid Below)
open Go.Deep
namespace K
set_option maxRecDepth 100000
theorem wpList_load_rwg {ops : Array Oper} {rest : List Oper} {o : Oper} {a : Act} {w : World} {Q : Exit → Act → World → Prop} (T : TypeId) {n : Nat} (hT : IsT T n) (hw : Region.wanted o (yielded ops a.tmps) = true) (x : Operand) (ho : o.op = .load T x)
    (b : Nat) (hx : a.eval x = .pointer (some ⟨b, 0, none⟩)) (A : Array Value) (hA : A.size = n) (hb : RW T w b A) (h : wpList Tryd.prog ops Q rest (a.put o.dst (.agg A)) w) : wpList Tryd.prog ops Q (o :: rest) a w := by
  obtain ⟨fs, hu⟩ := hT.2
  refine wpList_step fun K hK => ?_
  rw [if_pos hw]
  exact wp_load_row T x ho b hx T A (0, 0) _ hb hu rfl (by rw [hT.1, hA]) (hK _ _ h)
theorem isT_cf : IsT 23 7 := ⟨by kernel_rfl, _, Tryd.underlying23⟩
theorem rmZ_one : rmZ.all (·.oneCell') = true := by simp [rmZ, Value.oneCell']
theorem row_ne_bk {w : World} {m p r g : Nat} {c : Cfg} {cs xs : List Int} {cnt : Int} {a : Acc} {cap : Nat} (hM : Mm w m p r c cs cnt a) (hR : RowR w g xs cap) : ¬ g = p ∧ ¬ g = m := by
  obtain ⟨rest, z, _⟩ := hR
  exact ⟨fun e => by rw [e, hM.bk.st] at z; simp at z, fun e => by rw [e, hM.st] at z; simp at z⟩
/-- There is a world of these words. -/
def IsW (c : Cfg) (n : Nat) : Prop := riB c = true ∧ (n : Int) = lnV c ∧ n ≤ 400
def cfV (c : Cfg) : Value := .agg #[.int .i64 c.t, .int .i64 c.s, .int .i64 c.c, .int .i64 c.h, .int .i64 c.k, .int .i64 c.e, .int .i64 c.l]
theorem kof_no (c : Cfg) (ao : Option Addr) (n cap : Nat) (w : World) (h : ¬ IsW c n) :
    Calls Tryd.prog 9 #[.agg #[.int .i64 c.t, .int .i64 c.s, .int .i64 c.c, .int .i64 c.h, .int .i64 c.k, .int .i64 c.e, .int .i64 c.l], .slice ao n cap] w fun e w' => e = .returned (.tuple #[.pointer none, .agg rmZ, .bool false]) ∧ Kept [] w w' := by
  by_cases h1 : riB c = true
  · by_cases h2 : (n : Int) = lnV c
    · exact lof_big c ao n cap w h1 h2 (by have : ¬ n ≤ 400 := fun h3 => h ⟨h1, h2, h3⟩; omega)
    · exact lof_len c ao n cap w h1 _ rfl (by simpa using h2)
  · exact lof_wrong c ao n cap w (by simpa using h1)
theorem kof_yes (c : Cfg) (ao : Option Addr) (xs : List Int) (n cap : Nat) (w : World) (h : IsW c n) (hx : n = xs.length) (hs : Sl w ao xs) (hc : ao = none → cap = 0) :
    Calls Tryd.prog 9 #[.agg #[.int .i64 c.t, .int .i64 c.s, .int .i64 c.c, .int .i64 c.h, .int .i64 c.k, .int .i64 c.e, .int .i64 c.l], .slice ao n cap] w fun e w' => ∃ m p r g c', e = .returned (.tuple #[.pointer (some ⟨m, 0, none⟩), .agg (rmA c (some ⟨g, 0, none⟩) n c' 0 Acc.zero), .bool true]) ∧ (w.heap.size ≤ m ∧ w.heap.size ≤ p ∧ w.heap.size ≤ r ∧ w.heap.size ≤ g ∧ ¬ g = r) ∧ Mm w' m p r c xs 0 Acc.zero ∧ RowR w' g xs c' ∧ Kept [] w w' :=
  lof_yes c ao xs n cap w h.1 h.2.1 h.2.2 hx hs hc
theorem isW_cap {c : Cfg} {n : Nat} (h : IsW c n) : 1 ≤ c.c ∧ c.c ≤ 64 := by
  have := (riB_true.1 h.1); exact ⟨this.c0, this.c1⟩
theorem wds_of {xs : List Int} (h : ∀ x ∈ xs, isWord x) : Wds xs := fun x hx => by
  have := bounds_u64 (h x hx); omega
/-- The law's sameness, of the same words. -/
theorem ksame_any (m p r g : Nat) (c0 c : Cfg) (cs : List Int) (cnt : Int) (a : Acc) (n cap : Nat) (w : World) (hM : Mm w m p r c0 cs cnt a) (hR : RowR w g cs cap) (hn : n = cs.length) (hl : n ≤ 17592186044415) :
    Calls Tryd.prog 15 #[.pointer (some ⟨m, 0, none⟩), .agg (rmA c (some ⟨g, 0, none⟩) n cap cnt a)] w fun e w' => e = .returned (.bool true) ∧ Kept [] w w' := msame_any m p r c0 c cs cnt a g n cap w hM hR hn hl
end K
end Go.Proofs.YtmmpafhfanldbaaDoor
