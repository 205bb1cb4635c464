/-
  The contracts of package bank: a bank is a block of its own and a row of words; what each call makes of them.
-/
import Derived.Test.YtlmkcakmeldfeaaMem
namespace Go.Proofs.Ytlmkcakmeldfeaa
open Go.RowKit (Grown Hid Below)
open Go.Deep

def add64 (a b : Int) : Int := IntKind.u64.wrap (a + b)
/-- What a cell has behind an access, and whether that is done. -/
def bhV (k had old v : Int) : Int := if k = 2 then v else if k = 3 then (if had = old then v else had) else if k = 4 then add64 had v else had
def bhB (k had old : Int) : Bool := !(k == 3) || had == old
theorem tup2 {a b : Int} {c d : Bool} (h : a = b) (k : c = d) : Ending.returned (.tuple #[.int .u64 a, .bool c]) = .returned (.tuple #[.int .u64 b, .bool d]) := by rw [h, k]
/-- An access, as it lies in memory. -/
structure Acc where
  k : Int
  c : Int
  v : Int
  o : Int
  n : Int
  d : Bool
def Acc.val (a : Acc) : Value := .agg #[.int .i64 a.k, .int .i64 a.c, .int .u64 a.v, .int .u64 a.o, .int .u64 a.n, .bool a.d]
def hasC (cs : List Int) (c : Int) : Prop := 0 ≤ c ∧ c < cs.length
instance (cs : List Int) (c : Int) : Decidable (hasC cs c) := by unfold hasC; infer_instance
/-- The access that is told, and the cells behind it. -/
def acV (cs : List Int) (k c via old v : Int) : Acc := if hasC cs c then ⟨k, c, via, cs.getD c.toNat 0, bhV k (cs.getD c.toNat 0) old v, bhB k (cs.getD c.toNat 0) old⟩ else ⟨k, c, via, 0, 0, false⟩
def clV (cs : List Int) (k c old v : Int) : List Int := if hasC cs c then cs.set c.toNat (bhV k (cs.getD c.toNat 0) old v) else cs

/-- Seven stores into a bank's own block. -/
def wrote7 (w : World) (p : Nat) (b1 b2 b3 b4 b5 b6 b7 : Value) : World :=
  ((((((w.setCell ⟨p, 1, none⟩ b1).setCell ⟨p, 2, none⟩ b2).setCell ⟨p, 3, none⟩ b3).setCell ⟨p, 4, none⟩ b4).setCell ⟨p, 5, none⟩ b5).setCell ⟨p, 6, none⟩ b6).setCell ⟨p, 7, none⟩ b7
theorem wrote7_blk {w : World} {p : Nat} {s a1 a2 a3 a4 a5 a6 a7 : Value} {t : TypeId} (h : w.heap[p]? = some (.cells #[s, a1, a2, a3, a4, a5, a6, a7] t (0, 0))) (b1 b2 b3 b4 b5 b6 b7 : Value) :
    (wrote7 w p b1 b2 b3 b4 b5 b6 b7).heap[p]? = some (.cells #[s, b1, b2, b3, b4, b5, b6, b7] t (0, 0)) := by
  have q := blk_set (blk_set (blk_set (blk_set (blk_set (blk_set (blk_set h 1 b1) 2 b2) 3 b3) 4 b4) 5 b5) 6 b6) 7 b7
  simpa [wrote7] using q
theorem wrote7_kept (w : World) (p : Nat) (l : List Nat) (hp : p ∈ l) (b1 b2 b3 b4 b5 b6 b7 : Value) : Kept l w (wrote7 w p b1 b2 b3 b4 b5 b6 b7) :=
  ((((((((Kept.refl l w).setCell (Or.inl hp) _).setCell (Or.inl hp) _).setCell (Or.inl hp) _).setCell (Or.inl hp) _).setCell (Or.inl hp) _).setCell (Or.inl hp) _).setCell (Or.inl hp) _)
end Go.Proofs.Ytlmkcakmeldfeaa
