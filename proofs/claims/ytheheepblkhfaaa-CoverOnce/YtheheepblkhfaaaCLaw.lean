/-
  The contracts that the laws of cover lean on, their answers under names.
-/
import Derived.Test.YtheheepblkhfaaaCArgs
import Derived.Test.YtheheepblkhfaaaCRefSplit
import Derived.Test.YtheheepblkhfaaaCRows
import Derived.Test.YtheheepblkhfaaaCSame
import Derived.Test.YtheheepblkhfaaaCAlive
namespace Go.Proofs.Ytheheepblkhfaaa
set_option maxRecDepth 100000
open Go.RowKit
open Go.Deep
theorem split_is {ao : Option Addr} {xs : List Int} {n cap : Nat} {bo : Option Addr} {es A B : List Ent} {m cb p q : Nat} (hn : n = xs.length) (hl : n ≤ 17592186044415) (hm : m = es.length) (hk : m ≤ 1000)
    (hA : es.filter (fun e => cvB e xs) = A) (hB : es.filter (fun e => !cvB e xs) = B) (hp : A.length = p) (hq : B.length = q) (w : World) (hs : Sl w ao xs) (he : SlE w bo es) :
    Calls Try.prog 13 #[.slice bo m cb, .slice ao n cap] w fun o w' => ∃ a1 c1 a2 c2, o = .returned (.tuple #[.slice a1 p c1, .slice a2 q c2]) ∧ SlE w' a1 A ∧ SlE w' a2 B ∧ Kept [] w w' := by
  subst hA hB hp hq; exact split_any ao xs n cap bo es m cb w hn hs hl hm he hk
theorem rsplit_is {c : Bool} {ao : Option Addr} {xs : List Int} {n cap : Nat} {bo : Option Addr} {es A : List Ent} {m cb p : Nat} (hn : n = xs.length) (hl : n ≤ 17592186044415) (hm : m = es.length) (hk : m ≤ 1000)
    (hA : es.filter (fun e => cvB e xs == c) = A) (hp : A.length = p) (w : World) (hs : Sl w ao xs) (he : SlE w bo es) :
    Calls Try.prog 16 #[.slice bo m cb, .slice ao n cap, .bool c] w fun o w' => ∃ a1 c1, o = .returned (.slice a1 p c1) ∧ SlE w' a1 A ∧ Kept [] w w' := by
  subst hA hp; exact rsplit_any c ao xs n cap bo es m cb w hn hs hl hm he hk
theorem same_is {ao bo : Option Addr} {us : List Ent} {n ca cb : Nat} (hn : n = us.length) (hl : n ≤ 1000) (w : World) (ha : SlE w ao us) (hb : SlE w bo us) :
    Calls Try.prog 14 #[.slice ao n ca, .slice bo n cb] w fun o w' => o = .returned (.bool true) ∧ Kept [] w w' := by
  have h := same_any ao bo us us n n ca cb w hn hn ha hb hl hl
  rw [decide_eq_true rfl] at h; exact h
theorem filter_true (es : List Ent) (xs : List Int) : es.filter (fun e => cvB e xs == true) = es.filter (fun e => cvB e xs) := by congr 1; funext e; simp
theorem filter_false (es : List Ent) (xs : List Int) : es.filter (fun e => cvB e xs == false) = es.filter (fun e => !cvB e xs) := by congr 1; funext e; simp
end Go.Proofs.Ytheheepblkhfaaa
