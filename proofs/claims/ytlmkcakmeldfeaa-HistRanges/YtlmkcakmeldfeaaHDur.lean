/-
  Is a key in the map at some moment, and at each?
-/
import Derived.Test.YtlmkcakmeldfeaaHLife
namespace Go.Proofs.Ytlmkcakmeldfeaa.Q
set_option maxRecDepth 100000
open Go.RowKit
open Go.Deep
/-- What is left to go through, from a state on. -/
def drF (en : Int) : List Chg → Int → Bool → Bool → Bool → Bool × Bool
  | [], _, h, s, e => (s || h, e && h)
  | c :: l, mo, h, s, e => if en < c.t then (s || h, e && h) else if mo < c.t then drF en l c.t c.h (s || h) (e && h) else drF en l mo c.h s e
def dur (l : List Chg) (bg en : Int) : Bool × Bool := drF en l bg false false true
def chZ : Chg := ⟨0, false⟩
theorem drop_ch {l : List Chg} {k : Nat} (h : k < l.length) : l.drop k = l.getD k chZ :: l.drop (k + 1) := by
  rw [List.drop_eq_getElem_cons h]; simp [h]
def DurP (w : World) (r : Bool × Bool) (o : Ending) (w' : World) : Prop := o = .returned (.tuple #[.bool r.1, .bool r.2]) ∧ Kept [] w w'
theorem SlC.row {w : World} {ao : Option Addr} {l : List Chg} (h : SlOf 2 chC w ao l) {k : Nat} (hk : k < l.length) : ∃ b off, ao = some ⟨b, off, none⟩ ∧ b < w.heap.size ∧ w.cell? ⟨b, off + k * 2, none⟩ = some (.int .i64 (l.getD k chZ).t) ∧ w.cell? ⟨b, off + k * 2 + 1, none⟩ = some (.bool (l.getD k chZ).h) := by
  obtain ⟨b, off, rfl, hb, hc⟩ := h (by omega)
  have e : l.getD k chZ = l[k] := by simp [hk]
  rw [e]
  exact ⟨b, off, rfl, hb, hc k hk 0 _ rfl, hc k hk 1 _ rfl⟩
set_option maxHeartbeats 4000000 in
theorem during_any (ao : Option Addr) (l : List Chg) (n cap : Nat) (bg en : Int) (w : World) (hn : n = l.length) (hs : SlOf 2 chC w ao l) (hl : n ≤ 1000) :
    Calls Try.prog 38 #[.slice ao n cap, .int .i64 bg, .int .i64 en] w fun o w' => DurP w (dur l bg en) o w' := by
  have HN : Hid _ := hn
  have HS : Hid (SlOf 2 chC w ao l) := hs
  clear hn hs
  unfold DurP
  obtain ⟨R, hR⟩ : ∃ R, R = dur l bg en := ⟨_, rfl⟩
  rw [← hR]
  have HR : Hid (R = drF en l bg false false true) := hR
  clear hR
  go_enter Try.func38, Try.ntmps38
  go_wp2
  go_loopw [6, 7, 8, 9, 15] (fun v6 v7 v8 v9 i wr => ∃ (k : Nat) (mo : Int) (h s e : Bool), k ≤ n ∧ i = .int .i64 k ∧ v6 = .bool s ∧ v7 = .bool e ∧ v8 = .int .i64 mo ∧ v9 = .bool h ∧ Hid (R = drF en (l.drop k) mo h s e) ∧ Kept [] w wr) (fun _ _ _ _ i _ => n - (intOf i).toNat)
  case atStart => exact ⟨0, bg, false, false, true, Nat.zero_le _, rfl, rfl, rfl, rfl, rfl, HR, Kept.refl _ _⟩
  case round =>
    clear HR
    obtain ⟨k, mo, h, s, e, hk, rfl, rfl, rfl, rfl, rfl, E, K⟩ := hrel
    by_cases hlt : k < n
    · have hkx : k < l.length := by have := HN.out; omega
      have E1 := E.out
      rw [drop_ch hkx] at E1
      obtain ⟨b1, o1, e1, lt1, c0, c1⟩ := SlC.row (HS.out.new K) hkx
      generalize l.getD k chZ = c at c0 c1 E1
      unfold drF at E1
      have HE : Hid _ := E1
      clear E E1
      rw [e1]
      by_cases q1 : en < c.t
      · have RR : Hid (R = (s || h, e && h)) := by show _ = _; rw [HE.out, if_pos q1]
        clear HE
        cases s <;> cases e
        all_goals
          go_wp2
          go_ret2
          exact ⟨by rw [RR.out]; first | rfl | (simp; done), K.alloc _⟩
      · by_cases q2 : mo < c.t
        · have RR : Hid (R = drF en (l.drop (k + 1)) c.t c.h (s || h) (e && h)) := by show _ = _; rw [HE.out, if_neg q1, if_pos q2]
          clear HE
          cases s <;> cases e
          all_goals
            go_wp2
            exact ⟨⟨k + 1, c.t, c.h, _, _, by omega, by go_num, rfl, rfl, rfl, rfl, (by first | exact RR | (have := RR.out; simp at this; exact this)), K.alloc _⟩, by simp [intOf]; omega⟩
        · have RR : Hid (R = drF en (l.drop (k + 1)) mo c.h s e) := by show _ = _; rw [HE.out, if_neg q1, if_neg q2]
          clear HE
          go_wp2
          go_roundw
          case rel => exact ⟨k + 1, mo, c.h, s, e, by omega, by go_num, rfl, rfl, rfl, rfl, RR, K.alloc _⟩
          case measure => simp [intOf]; omega
    · have RR : Hid (R = (s || h, e && h)) := by
        show _ = _
        rw [E.out, List.drop_eq_nil_of_le (by have := HN.out; omega)]; rfl
      clear E
      cases s <;> cases e
      all_goals
        go_wp2
        go_ret2
        exact ⟨by rw [RR.out]; first | rfl | (simp; done), K⟩
end Go.Proofs.Ytlmkcakmeldfeaa.Q
