/-
  The document's own test of whether two rows of entries are the same.
-/
import Derived.Test.YtheheepblkhfaaaCEq
namespace Go.Proofs.Ytheheepblkhfaaa
set_option maxRecDepth 100000
open Go.RowKit
open Go.Deep
def nth (l : List Ent) (k : Nat) : Ent := l.getD k default
theorem take_eq_succ {a b : List Ent} {k : Nat} (ha : k < a.length) (hb : k < b.length) (h : a.take k = b.take k) : a.take (k + 1) = b.take (k + 1) ↔ nth a k = nth b k := by
  rw [take_next ha default, take_next hb default, h]
  constructor
  · intro e; simpa [nth] using e
  · intro e; unfold nth at e; rw [e]
theorem eq_of_take {a b : List Ent} {k : Nat} (h : ¬ nth a k = nth b k) : ¬ a = b := by
  rintro rfl; exact h rfl
set_option maxHeartbeats 1000000 in
theorem same_any (ao bo : Option Addr) (us vs : List Ent) (n m ca cb : Nat) (w : World) (hn : n = us.length) (hm : m = vs.length) (ha : SlE w ao us) (hb : SlE w bo vs) (hl : n ≤ 1000) (hk : m ≤ 1000) :
    Calls Try.prog 14 #[.slice ao n ca, .slice bo m cb] w fun o w' => o = .returned (.bool (decide (us = vs))) ∧ Kept [] w w' := by
  have HN : Hid _ := hn
  have HM : Hid _ := hm
  clear hn hm
  by_cases hnm : n = m
  · subst hnm
    go_enter Try.func14, Try.ntmps14
    go_wp2
    go_loopw [5] (fun i wr => ∃ k : Nat, k ≤ n ∧ i = .int .i64 k ∧ us.take k = vs.take k ∧ Kept [] w wr) (fun i _ => n - (intOf i).toNat)
    case atStart => exact ⟨0, Nat.zero_le _, rfl, rfl, Kept.refl _ _⟩
    case round =>
      obtain ⟨k, hk, rfl, hA, K⟩ := hrel
      by_cases hlt : k < n
      · have hka : k < us.length := by have := HN.out; omega
        have hkb : k < vs.length := by have := HM.out; omega
        obtain ⟨b1, o1, rfl, _, c0, c1, c2⟩ := (ha.new K).row hka
        obtain ⟨b2, o2, rfl, _, d0, d1, d2⟩ := (hb.new K).row hkb
        have HA : Hid _ := take_eq_succ hka hkb hA
        have HE : Hid _ := @eq_of_take us vs k
        have HT : Hid _ := hA
        clear hA
        unfold nth at HA HE
        generalize us.getD k default = x at c0 c1 c2 HA HE
        generalize vs.getD k default = y at d0 d1 d2 HA HE
        have heq := eq_ent x.n x.b x.r y.n y.b y.r
        by_cases h : x = y
        · have t0 : (x.n == y.n && x.b == y.b && x.r == y.r) = true := by rw [h]; simp
          rw [t0] at heq
          go_wp2_with fail
          go_quiet (fail)
          go_wp2
          go_roundw
          case rel => exact ⟨k + 1, by omega, by go_num, HA.out.2 h, K.drewN _⟩
          case measure => simp [intOf]; omega
        · have t0 : (x.n == y.n && x.b == y.b && x.r == y.r) = false := by
            obtain ⟨xn, xb, xr⟩ := x
            obtain ⟨yn, yb, yr⟩ := y
            simpa [Bool.and_eq_false_iff, and_assoc] using h
          rw [t0] at heq
          go_wp2_with fail
          go_quiet (fail)
          go_wp2
          go_ret
          exact ⟨by rw [decide_eq_false (HE.out h)]; rfl, K.drewN _⟩
      · have e2 : us.take k = us := List.take_of_length_le (by have := HN.out; omega)
        have e3 : vs.take k = vs := List.take_of_length_le (by have := HM.out; omega)
        rw [e2, e3] at hA
        go_wp2
        go_ret
        exact ⟨by rw [decide_eq_true hA]; rfl, K⟩
  · have hd : ¬ us = vs := fun e => hnm (by rw [HN.out, HM.out, e])
    go_enter Try.func14, Try.ntmps14
    go_wp2
    go_ret
    exact ⟨by rw [decide_eq_false hd]; rfl, Kept.refl _ _⟩
end Go.Proofs.Ytheheepblkhfaaa
