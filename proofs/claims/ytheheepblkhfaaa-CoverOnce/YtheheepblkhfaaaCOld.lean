/-
  The contracts of package cover: the least birth; and the document's. How often an entry is among some.
-/
import Derived.Test.YtheheepblkhfaaaCEq
namespace Go.Proofs.Ytheheepblkhfaaa
set_option maxRecDepth 100000
open Go.RowKit
open Go.Deep
/-- The least birth of some entries, beginning with one. -/
def mnV (a : Int) : List Ent → Int
  | [] => a
  | e :: l => mnV (if e.b < a then e.b else a) l
theorem mn_app (a : Int) (l : List Ent) (e : Ent) : mnV a (l ++ [e]) = if e.b < mnV a l then e.b else mnV a l := by
  induction l generalizing a with
  | nil => rfl
  | cons x l ih => exact ih _
theorem mn_next (a : Int) {l : List Ent} {k : Nat} (h : k < l.length) : mnV a (l.take (k + 1)) = if (l.getD k default).b < mnV a (l.take k) then (l.getD k default).b else mnV a (l.take k) := by
  rw [take_next h default, mn_app]
def olV : List Ent → Int
  | [] => 0
  | e :: l => mnV e.b l
def olB (es : List Ent) : Bool := !es.isEmpty
set_option maxHeartbeats 1000000 in
theorem oldest_any (bo : Option Addr) (es : List Ent) (m cb : Nat) (w : World) (hm : m = es.length) (he : SlE w bo es) (hk : m ≤ 1000) (hcb : m ≤ cb) :
    Calls Try.prog 18 #[.slice bo m cb] w fun o w' => o = .returned (.tuple #[.int .u64 (olV es), .bool (olB es)]) ∧ Kept [] w w' := by
  cases es with
  | nil =>
    subst hm
    go_enter Try.func18, Try.ntmps18
    go_wp2
    go_ret2
    exact ⟨rfl, Kept.refl _ _⟩
  | cons e es =>
    obtain ⟨b1, o1, rfl, hb1, hc⟩ := he (by simp)
    have c0 : w.cell? ⟨b1, o1 + 1, none⟩ = some (.int .u64 e.b) := hc 0 (by simp) 1 _ rfl
    have HM : Hid (m = es.length + 1) := hm
    have m0 : 0 < m := by rw [hm]; simp
    have hc' : Hid (∀ (k : Nat), k < es.length → ∀ (W : World), Kept [] w W → W.cell? ⟨b1, o1 + 3 + k * 3, none⟩ = some (.int .u64 (es.getD k default).n) ∧ W.cell? ⟨b1, o1 + 3 + k * 3 + 1, none⟩ = some (.int .u64 (es.getD k default).b) ∧ W.cell? ⟨b1, o1 + 3 + k * 3 + 2, none⟩ = some (.int .u64 (es.getD k default).r)) := by
      intro k hk W K
      have q := fun j v h => hc (k + 1) (by simpa using hk) j v h
      have ek : es.getD k default = es[k] := by simp [hk]
      have ea : o1 + 3 + k * 3 = o1 + (k + 1) * 3 := by omega
      rw [ek, ea]
      exact ⟨same_at K (q 0 _ rfl), same_at K (q 1 _ rfl), same_at K (q 2 _ rfl)⟩
    clear hm hc he
    by_cases h1 : cb = 1
    · subst h1
      have hm1 : m = 1 := by omega
      subst hm1
      have e2 : es = [] := List.eq_nil_of_length_eq_zero (by have := HM.out; omega)
      subst e2
      clear hc'
      go_enter Try.func18, Try.ntmps18
      go_wp2
      go_loopw [4, 17] (fun v i wr => i = .int .i64 0 ∧ v = .int .u64 e.b ∧ wr = w) (fun _ _ _ => 0)
      case atStart => exact ⟨rfl, rfl, rfl⟩
      case round =>
        obtain ⟨rfl, rfl, rfl⟩ := hrel
        go_wp2
        go_ret2
        exact ⟨rfl, Kept.refl _ _⟩
    · have h2 : 1 < cb := by omega
      go_enter Try.func18, Try.ntmps18
      go_wp2
      go_loopw [4, 17] (fun v i wr => ∃ k : Nat, k ≤ m - 1 ∧ i = .int .i64 k ∧ v = .int .u64 (mnV e.b (es.take k)) ∧ Kept [] w wr) (fun _ i _ => m - (intOf i).toNat)
      case atStart => exact ⟨0, Nat.zero_le _, rfl, rfl, Kept.refl _ _⟩
      case round =>
        obtain ⟨k, hk', rfl, rfl, K⟩ := hrel
        by_cases hlt : k < m - 1
        · have hkx : k < es.length := by have := HM.out; omega
          obtain ⟨c0, c1, c2⟩ := hc'.out k hkx wr K
          have HT : Hid _ := mn_next e.b hkx
          generalize es.getD k default = x at c0 c1 c2 HT
          generalize mnV e.b (es.take k) = a at HT ⊢
          by_cases hx : x.b < a
          · go_wp2
            exact ⟨⟨k + 1, by omega, by go_num, by rw [HT.out, if_pos hx], K.alloc _⟩, by simp [intOf]; omega⟩
          · go_wp2
            exact ⟨⟨k + 1, by omega, by go_num, by rw [HT.out, if_neg hx], K.alloc _⟩, by simp [intOf]; omega⟩
        · have e2 : es.take k = es := List.take_of_length_le (by have := HM.out; omega)
          rw [e2]
          go_wp2
          go_ret2
          exact ⟨rfl, K⟩
set_option maxHeartbeats 1000000 in
theorem roldest_any (bo : Option Addr) (es : List Ent) (m cb : Nat) (w : World) (hm : m = es.length) (he : SlE w bo es) (hk : m ≤ 1000) :
    Calls Try.prog 19 #[.slice bo m cb] w fun o w' => o = .returned (.tuple #[.int .u64 (olV es), .bool (olB es)]) ∧ Kept [] w w' := by
  cases es with
  | nil =>
    subst hm
    go_enter Try.func19, Try.ntmps19
    go_wp2
    go_ret2
    exact ⟨rfl, Kept.refl _ _⟩
  | cons e es =>
    obtain ⟨b1, o1, rfl, hb1, hc⟩ := he (by simp)
    have c0 : w.cell? ⟨b1, o1 + 1, none⟩ = some (.int .u64 e.b) := hc 0 (by simp) 1 _ rfl
    have HM : Hid (m = es.length + 1) := hm
    have m0 : 0 < m := by rw [hm]; simp
    have hc' : Hid (∀ (k : Nat), k < es.length → ∀ (W : World), Kept [] w W → W.cell? ⟨b1, o1 + (k + 1) * 3 + 1, none⟩ = some (.int .u64 (es.getD k default).b)) := by
      intro k hk W K
      have ek : es.getD k default = es[k] := by simp [hk]
      rw [ek]
      exact same_at K (hc (k + 1) (by simpa using hk) 1 _ rfl)
    clear hm hc he
    go_enter Try.func19, Try.ntmps19
    go_wp2
    go_loopw [4, 5] (fun v i wr => ∃ k j : Nat, j = k + 1 ∧ j ≤ m ∧ i = .int .i64 j ∧ v = .int .u64 (mnV e.b (es.take k)) ∧ Kept [] w wr) (fun _ i _ => m - (intOf i).toNat)
    case atStart => exact ⟨0, 1, rfl, by omega, rfl, rfl, Kept.refl _ _⟩
    case round =>
      obtain ⟨k, j, hj, hj', rfl, rfl, K⟩ := hrel
      have HJ : Hid _ := hj
      by_cases hlt : j < m
      · have hkx : k < es.length := by have := HM.out; omega
        have c1 := hc'.out k hkx wr K
        rw [← hj] at c1
        clear hj
        have HT : Hid _ := mn_next e.b hkx
        generalize es.getD k default = x at c1 HT
        generalize mnV e.b (es.take k) = a at HT ⊢
        by_cases hx : x.b < a
        · go_wp2
          exact ⟨⟨k + 1, j + 1, by have := HJ.out; omega, by omega, by go_num, by rw [HT.out, if_pos hx], K⟩, by simp [intOf]; omega⟩
        · go_wp2
          exact ⟨⟨k + 1, j + 1, by have := HJ.out; omega, by omega, by go_num, by rw [HT.out, if_neg hx], K⟩, by simp [intOf]; omega⟩
      · have e2 : es.take k = es := List.take_of_length_le (by have := HM.out; omega)
        clear hj
        rw [e2]
        go_wp2
        go_ret2
        exact ⟨rfl, K⟩
/-- How often an entry is among some. -/
def cnV (e : Ent) (es : List Ent) : Nat := es.countP (fun x => decide (x = e))
theorem cn_next (e : Ent) {l : List Ent} {k : Nat} (h : k < l.length) : cnV e (l.take (k + 1)) = cnV e (l.take k) + if l.getD k default = e then 1 else 0 := by
  unfold cnV
  rw [take_next h default, List.countP_append, List.countP_singleton]
  simp
theorem cn_le (e : Ent) (l : List Ent) : cnV e l ≤ l.length := List.countP_le_length
set_option maxHeartbeats 1000000 in
theorem count_of (e : Ent) (B : Nat) (bo : Option Addr) (es : List Ent) (m cb : Nat) (w : World) (hB : w.heap[B]? = some (.cells #[.int .u64 e.n, .int .u64 e.b, .int .u64 e.r] 24 (0, 0))) (hm : m = es.length) (he : SlE w bo es) (hk : m ≤ 1000) :
    Calls Try.prog 17 #[.slice bo m cb, .pointer (some ⟨B, 0, none⟩)] w fun o w' => o = .returned (.int .i64 (cnV e es : Nat)) ∧ Kept [] w w' := by
  have HM : Hid _ := hm
  clear hm
  have hBw := lt_of_blk hB
  go_enter Try.func17, Try.ntmps17
  go_wp2
  go_loopw [4, 9] (fun v i wr => ∃ k a : Nat, k ≤ m ∧ i = .int .i64 k ∧ v = .int .i64 (a : Int) ∧ a = cnV e (es.take k) ∧ a ≤ k ∧ Kept [] w wr) (fun _ i _ => m - (intOf i).toNat)
  case atStart => exact ⟨0, 0, Nat.zero_le _, rfl, rfl, rfl, Nat.le_refl _, Kept.refl _ _⟩
  case round =>
    obtain ⟨k, a, hk', rfl, rfl, ha, hak, K⟩ := hrel
    have HA : Hid _ := ha
    clear ha
    by_cases hlt : k < m
    · have hkx : k < es.length := by have := HM.out; omega
      obtain ⟨b1, o1, rfl, _, c0, c1, c2⟩ := (he.new K).row hkx
      have HT : Hid _ := cn_next e hkx
      generalize es.getD k default = x at c0 c1 c2 HT
      have heq := eq_ent x.n x.b x.r e.n e.b e.r
      have Z := K.blk hB (by simp)
      have q0 := cell_of_blk Z (i := 0) rfl
      have q1 := cell_of_blk Z (i := 1) rfl
      have q2 := cell_of_blk Z (i := 2) rfl
      have lz := lt_of_blk Z
      have lz' : B < wr.heap.size + 1 := by omega
      by_cases h : x = e
      · have t0 : (x.n == e.n && x.b == e.b && x.r == e.r) = true := by rw [h]; simp
        rw [t0] at heq
        clear Z
        go_wp2
        exact ⟨⟨k + 1, a + 1, by omega, by go_num, by go_num, by rw [HT.out, if_pos h, HA.out], by omega, K.alloc _⟩, by simp [intOf]; omega⟩
      · have t0 : (x.n == e.n && x.b == e.b && x.r == e.r) = false := by
          clear heq HT c0 c1 c2 q0 q1 q2 Z hB
          obtain ⟨xn, xb, xr⟩ := x
          obtain ⟨yn, yb, yr⟩ := e
          simpa [Bool.and_eq_false_iff, and_assoc] using h
        rw [t0] at heq
        clear Z
        go_wp2
        exact ⟨⟨k + 1, a, by omega, by go_num, rfl, by rw [HT.out, if_neg h, HA.out]; rfl, by omega, K.alloc _⟩, by simp [intOf]; omega⟩
    · have e2 : es.take k = es := List.take_of_length_le (by have := HM.out; omega)
      have HA2 : Hid (a = cnV e es) := by rw [e2] at HA; exact HA
      clear HA
      go_wp2
      go_ret
      exact ⟨by rw [← HA2.out]; rfl, K⟩
end Go.Proofs.Ytheheepblkhfaaa
