/-
  The contracts that the statements of seq lean on, their answers under names.
-/
import Derived.Test.YtapbkonfjieadaaQArgs
import Derived.Test.YtapbkonfjieadaaQRDoAll
namespace Go.Proofs.Ytapbkonfjieadaa.Q
set_option maxRecDepth 100000
open Go.RowKit
open Go.Deep
/-- Words of an answer. -/
def AnsP (w : World) (ao : Option Addr) (n : Nat) (ks : List Int) : Prop := n = ks.length ∧ Sl w ao ks ∧ n ≤ 1000
theorem AnsP.new {w w' : World} {ao : Option Addr} {n : Nat} {ks : List Int} (h : AnsP w ao n ks) (k : Kept [] w w') : AnsP w' ao n ks := ⟨h.1, h.2.1.new k, h.2.2⟩
theorem ssame_kw {W : World} {f1 h1 f2 h2 r : Bool} {g1 g2 : Int} {ao bo : Option Addr} {us vs : List Int} {n m ca cb : Nat} (ha : Hid (AnsP W ao n us)) (hb : Hid (AnsP W bo m vs)) (hr : Hid (smB f1 h1 g1 us f2 h2 g2 vs = r)) (p : KW W) :
    Calls Try.prog 20 #[.agg #[.bool f1, .bool h1, .int .u64 g1, .slice ao n ca], .agg #[.bool f2, .bool h2, .int .u64 g2, .slice bo m cb]] p.val fun o w'' => o = .returned (.bool r) ∧ ∃ q : KW W, w'' = q.val := by
  have e := hr.out
  subst e
  exact Calls.kw_of (ssame_any f1 h1 f2 h2 g1 g2 ao bo us vs n m ca cb p.val ha.out.1 hb.out.1 (ha.out.2.1.new p.kept) (hb.out.2.1.new p.kept) ha.out.2.2)
theorem rsame_kw {W : World} {f1 h1 f2 h2 r : Bool} {g1 g2 : Int} {ao bo : Option Addr} {us vs : List Int} {n m ca cb : Nat} (ha : Hid (AnsP W ao n us)) (hb : Hid (AnsP W bo m vs)) (hr : Hid (smB f1 h1 g1 us f2 h2 g2 vs = r)) (p : KW W) :
    Calls Try.prog 19 #[.agg #[.bool f1, .bool h1, .int .u64 g1, .slice ao n ca], .agg #[.bool f2, .bool h2, .int .u64 g2, .slice bo m cb]] p.val fun o w'' => o = .returned (.bool r) ∧ ∃ q : KW W, w'' = q.val := by
  have e := hr.out
  subst e
  exact Calls.kw_of (rsame_any f1 h1 f2 h2 g1 g2 ao bo us vs n m ca cb p.val ha.out.1 hb.out.1 (ha.out.2.1.new p.kept) (hb.out.2.1.new p.kept) ha.out.2.2)
theorem smB_self (f h : Bool) (g : Int) (us : List Int) : smB f h g us f h g us = true := by simp [smB]
theorem smB_comm (f1 h1 f2 h2 : Bool) (g1 g2 : Int) (us vs : List Int) : smB f2 h2 g2 vs f1 h1 g1 us = smB f1 h1 g1 us f2 h2 g2 vs := by
  unfold smB
  rw [show (f2 == f1) = (f1 == f2) by cases f1 <;> cases f2 <;> rfl, show (h2 == h1) = (h1 == h2) by cases h1 <;> cases h2 <;> rfl, show (g2 == g1) = (g1 == g2) from BEq.comm]
  congr 1
  by_cases h : us = vs
  · simp [h]
  · rw [decide_eq_false h, decide_eq_false (Ne.symm h)]
end Go.Proofs.Ytapbkonfjieadaa.Q
