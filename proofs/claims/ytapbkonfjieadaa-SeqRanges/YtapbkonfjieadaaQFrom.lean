/-
  The contracts of going through a map's pairs from a key on.
-/
import Derived.Test.YtapbkonfjieadaaQOps
import Derived.RangeFuncNested
import Derived.RangeFuncBound
import Derived.RangeFuncCalls
import Derived.RangeFuncLeaves
import Derived.RangeFuncBox
import Derived.Shelf.Abstract
import Derived.Shelf.RegionOpen
import Derived.OwnWalkIn
import Derived.TacticsInMore
import Derived.LoopNIn
import Derived.LoopIn
import Derived.Maps.AppendAt
namespace Go.Proofs.Ytapbkonfjieadaa.Q
set_option maxRecDepth 100000
open Go.RowKit Go.Shelf
open Go.Deep
attribute [local go_sem] Oper.semAt_some
set_option maxHeartbeats 1000000 in
theorem from_any (ao : Option Addr) (ps : List Pr) (n cap : Nat) (k : Int) (w : World) (h : MpV w ao n cap ps) (hst : Str ps) (hl : n ≤ 1000) :
    Calls Try.prog 40 #[.agg #[.slice ao n cap], .int .u64 k] w fun o w' => ∃ B2 a1, o = .returned (.func (.func 45) #[] #[.pointer (some ⟨w.heap.size, 0, none⟩), .pointer (some ⟨B2, 0, none⟩)]) ∧
      w'.heap[w.heap.size]? = some (.cells #[.slice ao n cap] 26 (0, 0)) ∧ w'.heap[B2]? = some (.cells #[.slice a1 (blw ps k).length (blw ps k).length] 24 (0, 0)) ∧ Kept [] w w' := by
  have K0 : Kept [] w (w.alloc (.cells #[.slice ao n cap] 26)) := (Kept.refl _ _).alloc _
  have Z0 := blk_alloc_new w (.cells #[.slice ao n cap] 26)
  have hc := parted_any ao ps n cap k _ (h.new K0) hst hl
  clear h
  go_enter Try.func40, Try.ntmps40
  go_wp2_with fail
  refine hc.mono ?_
  rintro o w1 ⟨a1, n1, a2, n2, a3, n3, c3, rfl, ⟨e1, S1⟩, ⟨e2, S2⟩, ⟨e3, S3, h3⟩, K1⟩
  have Z1 := K1.blk Z0 (by simp)
  have KT := K0.trans K1
  have E1 : Hid _ := e1
  clear hc K0 K1 Z0 e1 e2 e3 S1 S2 S3 h3
  go_wp2
  go_ret
  have KA : Kept [] w1 (w1.alloc (.cells #[.slice a1 n1 n1] 24)) := (Kept.refl [] w1).alloc _
  refine ⟨w1.heap.size, a1, rfl, KA.blk Z1 (by simp), ?_, KT.trans KA⟩
  rw [← E1.out]
  exact blk_alloc_new w1 _
theorem Kept.grown {w w' : World} (k : Kept [] w w') : w.grownBy w' none := ⟨k.os, k.tape, k.output, k.size, fun i hi _ => k.block i hi (by simp)⟩
theorem Kept.of_below' {n₀ : Nat} {w w' : World} (h : Below n₀ w w') {b : Nat} {o : Obj} (hb : b < n₀) (hz : w.heap[b]? = some o) : w'.heap[b]? = some o := (h.block b hb).trans hz
/-- Pairs below n₀, wherever they lie. -/
def SlB (n₀ : Nat) (W : World) (ao : Option Addr) (es : List Pr) : Prop := 0 < es.length → ∃ b off, ao = some ⟨b, off, none⟩ ∧ b < n₀ ∧ ∀ i, i < es.length → W.cell? ⟨b, off + i * 2, none⟩ = some (.int .u64 (es[i]?.getD default).k) ∧ W.cell? ⟨b, off + i * 2 + 1, none⟩ = some (.int .u64 (es[i]?.getD default).v)
theorem SlB.below {n₀ : Nat} {A B : World} (h : Below n₀ A B) {ao : Option Addr} {es : List Pr} (s : SlB n₀ A ao es) : SlB n₀ B ao es := by
  intro h0
  obtain ⟨b, off, rfl, hb, hc⟩ := s h0
  exact ⟨b, off, rfl, hb, fun i hi => ⟨(h.cell (p := ⟨b, off + i * 2, none⟩) hb).trans (hc i hi).1, (h.cell (p := ⟨b, off + i * 2 + 1, none⟩) hb).trans (hc i hi).2⟩⟩
theorem SlP.slb {W : World} {ao : Option Addr} {es : List Pr} (s : SlP W ao es) : SlB W.heap.size W ao es := by
  intro h0
  obtain ⟨b, off, rfl, hb, hc⟩ := s h0
  refine ⟨b, off, rfl, hb, fun i hi => ?_⟩
  have e : es[i]?.getD default = es[i] := by simp [hi]
  rw [e]
  exact ⟨hc i hi 0 _ rfl, hc i hi 1 _ rfl⟩
set_option maxHeartbeats 2000000 in
/-- The function that goes through the pairs: for every loop's body that keeps what lay below n₀. -/
theorem from1_in (F : Fence) (m : Nat) (hf : F.fn 45) (hro : F.round = none) (hm : 1 ≤ m) (l B1 B2 n₀ n cap n1 : Nat) (ao a1 : Option Addr) (ps : List Pr) (hn : n = ps.length) (hnc : n ≤ cap) (h1 : n1 ≤ n) (hz : ao = none → cap = 0) (hl : n ≤ 1000) (J Jx : List Pr → World → Prop)
    (hY : ∀ pre x W, J pre W → pre.length < n - n1 → YieldAt F (m - 1) Try.prog l #[.agg #[.int .u64 x.k, .int .u64 x.v]] W fun e W' =>
      (e = .returned (.bool true) ∧ J (pre ++ [x]) W' ∧ Below n₀ W W') ∨ (e = .returned (.bool false) ∧ Jx (pre ++ [x]) W'))
    (W : World) (hJ : AbidesFrom W.heap.size J) (hn0 : n₀ ≤ W.heap.size) (c1 : W.cell? ⟨B1, 0, none⟩ = some (.slice ao n cap)) (c2 : W.cell? ⟨B2, 0, none⟩ = some (.slice a1 n1 n1)) (hS : SlB n₀ W ao ps) (h0 : J [] W) :
    CallsIn F m Try.prog 45 #[.func (.yield l) #[] #[], .pointer (some ⟨B1, 0, none⟩), .pointer (some ⟨B2, 0, none⟩)] W fun e W' => (∃ v, e = .returned v) ∧
      ((∃ ys, ys = ps.drop n1 ∧ J ys W') ∨ (∃ pre, (∃ j, j < n - n1 ∧ pre = (ps.drop n1).take (j + 1)) ∧ Jx pre W')) := by
  have HN : Hid _ := hn
  clear hn
  refine callsIn_of_wp Try.func45 rfl hf ?_ hro
  simp only [Try.ntmps45, List.size_toArray, List.length_cons, List.length_nil, Nat.reduceAdd, Nat.reduceSub, Array.replicate_succ, Array.replicate_zero, List.push_toArray, List.append_toArray, List.nil_append, List.cons_append]
  have z1 : (n1 : Int) ≤ (n : Int) := by omega
  cases ao with
  | none =>
    obtain rfl : cap = 0 := hz rfl
    obtain rfl : n = 0 := by omega
    obtain rfl : n1 = 0 := by omega
    gi_wp2
    gi_loopw [12] (fun i wr => i = .int .i64 0 ∧ J [] wr) (fun _ _ => 0)
    case atStart => exact ⟨rfl, h0⟩
    case round =>
      obtain ⟨rfl, hJs⟩ := hrel
      gi_wp2
      go_end0
      exact ⟨⟨_, rfl⟩, .inl ⟨[], by rw [List.eq_nil_of_length_eq_zero HN.out.symm]; rfl, hJs⟩⟩
  | some ad =>
    by_cases hlt : n1 < n
    · have g1 : ¬ cap = n1 := by omega
      have g2 : ¬ cap - n1 = 0 := by omega
      obtain ⟨b, off, he, hb, hc⟩ := hS (by have := HN.out; omega)
      cases he
      gi_wp2
      obtain ⟨L, hL⟩ : ∃ L, L = n - n1 := ⟨_, rfl⟩
      rw [← hL] at hY ⊢
      have hLn : n1 + L = n := by omega
      clear hL
      gi_loopw [12] (fun vi wr => ∃ k : Nat, k ≤ L ∧ vi = .int .i64 k ∧ J ((ps.drop n1).take k) wr ∧ Below n₀ W wr) (fun vi _ => L - (intOf vi).toNat)
      case atStart => exact ⟨0, Nat.zero_le _, rfl, h0, Below.refl _ _⟩
      case round =>
        obtain ⟨k, hk, rfl, hJs, hB⟩ := hrel
        by_cases hlt2 : k < L
        · have hkz : (k : Int) < (L : Int) := by omega
          obtain ⟨d0, d1⟩ := hc (n1 + k) (by have := HN.out; omega)
          have c0 := (hB.cell (p := ⟨b, off + (n1 + k) * 2, none⟩) hb).trans d0
          have c1' := (hB.cell (p := ⟨b, off + (n1 + k) * 2 + 1, none⟩) hb).trans d1
          rw [Nat.add_mul, ← Nat.add_assoc] at c0 c1'
          have ex : (ps.drop n1).take (k + 1) = (ps.drop n1).take k ++ [ps[n1 + k]?.getD default] := by
            rw [List.take_add_one]; congr 1; simp [(by have := HN.out; omega : n1 + k < ps.length)]
          have hlen : ((ps.drop n1).take k).length < L := by
            have := HN.out; simp; omega
          obtain ⟨x, hx⟩ : ∃ x, ps[n1 + k]?.getD default = x := ⟨_, rfl⟩
          rw [hx] at c0 c1' ex
          have HX : Hid _ := ex
          clear ex hx d0 d1
          have KA : Kept [] wr (wr.alloc (.cells #[.int .u64 x.k, .int .u64 x.v] 52)) := (Kept.refl _ _).alloc _
          have hJ2 := hJ _ _ _ none hJs (Kept.grown KA) (by intro r e; cases e)
          obtain ⟨fn, tmps, assign, body, hy, hR⟩ := hY _ x _ hJ2 hlen
          have hBA : Below n₀ W (wr.alloc (.cells #[.int .u64 x.k, .int .u64 x.v] 52)) := hB.trans ((Below.refl _ wr).alloc (by have := hB.size; omega) _)
          gi_wp2
          refine hR.mono ?_
          rintro e W3 (⟨rfl, hJ3, hk3⟩ | ⟨rfl, hJx3⟩)
          · gi_wp2
            go_roundw
            case rel => exact ⟨k + 1, by omega, by simp, by rw [HX.out]; exact hJ3, hBA.trans hk3⟩
            case measure => simp [intOf]; omega
          · gi_wp2
            refine bodyPost_ret (results_none rfl _ _ _) rfl ?_
            exact ⟨⟨_, rfl⟩, .inr ⟨_, ⟨k, by omega, HX.out.symm⟩, hJx3⟩⟩
        · obtain rfl : k = L := by omega
          gi_wp2
          go_end0
          exact ⟨⟨_, rfl⟩, .inl ⟨_, by rw [List.take_of_length_le]; simp; have := HN.out; omega, hJs⟩⟩
    · obtain rfl : n1 = n := by omega
      have e0 : n1 - n1 = 0 := by omega
      by_cases g1 : cap = n1
      · gi_wp2
        gi_loopw [12] (fun i wr => i = .int .i64 0 ∧ J [] wr) (fun _ _ => 0)
        case atStart => exact ⟨rfl, h0⟩
        case round =>
          obtain ⟨rfl, hJs⟩ := hrel
          gi_wp2
          go_end0
          exact ⟨⟨_, rfl⟩, .inl ⟨[], (List.drop_eq_nil_of_le (by have := HN.out; omega)).symm, hJs⟩⟩
      · gi_wp2
        gi_loopw [12] (fun i wr => i = .int .i64 0 ∧ J [] wr) (fun _ _ => 0)
        case atStart => exact ⟨rfl, h0⟩
        case round =>
          obtain ⟨rfl, hJs⟩ := hrel
          gi_wp2
          go_end0
          exact ⟨⟨_, rfl⟩, .inl ⟨[], (List.drop_eq_nil_of_le (by have := HN.out; omega)).symm, hJs⟩⟩
end Go.Proofs.Ytapbkonfjieadaa.Q
