/-
  Which histories may be: the program's.
-/
import Derived.Test.YtlmkcakmeldfeaaHMap
import Derived.Test.YtlmkcakmeldfeaaHAstray
namespace Go.Proofs.Ytlmkcakmeldfeaa.Q
set_option maxRecDepth 100000
open Go.RowKit
open Go.Deep
theorem astray_at (e : Ev) (b : Bool) (hb : asB e = b) (w : World) (hs : Sl w e.ka e.ks) (hl : e.ks.length ≤ 1000) : Calls Try.prog 32 #[.agg (evA e)] w fun o w' => o = .returned (.bool b) ∧ Kept [] w w' := by subst hb; exact astray_any e w hs hl
/-- Few keys each. -/
def Ksl (es : List Ev) : Prop := ∀ e ∈ es, e.ks.length ≤ 1000
theorem Ksl.at {es : List Ev} (h : Ksl es) {i : Nat} (hi : i < es.length) : (evAt es i).ks.length ≤ 1000 := h _ (evAt_mem hi)
def IdxP (w : World) (es : List Ev) (o : Ending) (w' : World) : Prop := ∃ r : Int, o = .returned (.int .i64 r) ∧ decide (0 ≤ r) = es.any asB ∧ Kept [] w w'
set_option maxHeartbeats 2000000 in
theorem indexF_any (ao : Option Addr) (es : List Ev) (n cap : Nat) (w : World) (hv : Evs w ao n es) (hl : n ≤ 1000) (hk : Ksl es) :
    Calls Try.prog 52 #[.slice ao n cap, .func (.func 32) #[] #[]] w fun o w' => IdxP w es o w' := by
  have HV : Hid _ := hv
  have HK : Hid (Ksl es) := hk
  have OUT : Hid (∀ k, k < n → asB (evAt es k) = true → es.any asB = true) := fun k hk h => List.any_eq_true.2 ⟨evAt es k, evAt_mem (by rw [← hv.len]; exact hk), h⟩
  have YES : Hid ((∀ k, k < n → asB (evAt es k) = false) → es.any asB = false) := fun h => by
    rw [List.any_eq_false]
    intro x hx
    obtain ⟨i, hi, e⟩ := List.mem_iff_getElem.1 hx
    have := h i (by rw [hv.len]; exact hi)
    rw [show evAt es i = x by unfold evAt; rw [← e]; simp [hi]] at this
    simp [this]
  clear hv hk
  go_enter Try.func52, Try.ntmps52
  go_wp2
  go_loopw [8] (fun i wr => ∃ k : Nat, k ≤ n ∧ i = .int .i64 k ∧ Hid (∀ j, j < k → asB (evAt es j) = false) ∧ Kept [] w wr) (fun i _ => n - (intOf i).toNat)
  case atStart => exact ⟨0, Nat.zero_le _, rfl, (fun j hj => absurd hj (by omega)), Kept.refl _ _⟩
  case round =>
    obtain ⟨k, hk, rfl, E, K⟩ := hrel
    by_cases hlt : k < n
    · obtain ⟨b1, o1, e1, lt1, r0⟩ := HV.out.at K hlt
      have S := ((HV.out.new K).key hlt)
      have L := HK.out.at (i := k) (by rw [← HV.out.len]; exact hlt)
      have OU : Hid _ := OUT.out k hlt
      have ST : Hid (asB (evAt es k) = false → ∀ j, j < k + 1 → asB (evAt es j) = false) := fun h j hj => by
        by_cases q : j = k
        · rw [q]; exact h
        · exact E.out j (by omega)
      clear E
      generalize evAt es k = x at r0 S L OU ST
      rw [e1]
      cases hb : asB x
      · have hc := astray_at x false hb wr S L
        rw [hb] at ST
        clear hb
        go_wp2_with (first
          | ((with_reducible change wpList _ _ _ (Oper.mk _ (Op.load 53 _) _ _ _ _ :: _) _ _); refine wpList_load_g 53 isEv_hist rfl (.tmp 14) rfl b1 (o1 + k * 14) rfl x r0 ?_)
          | (go_at_call 32; refine hc.mono ?_; rintro o w1 ⟨rfl, K1⟩))
        go_roundw
        case rel => exact ⟨k + 1, by omega, by go_num, ST.out (by simp), K.trans K1⟩
        case measure => simp [intOf]; omega
      · have hc := astray_at x true hb wr S L
        rw [hb] at OU
        clear hb
        go_wp2_with (first
          | ((with_reducible change wpList _ _ _ (Oper.mk _ (Op.load 53 _) _ _ _ _ :: _) _ _); refine wpList_load_g 53 isEv_hist rfl (.tmp 14) rfl b1 (o1 + k * 14) rfl x r0 ?_)
          | (go_at_call 32; refine hc.mono ?_; rintro o w1 ⟨rfl, K1⟩))
        go_ret
        exact (⟨(k : Int), rfl, by rw [OU.out (by simp)]; simp, K.trans K1⟩ : IdxP w es _ _)
    · have RR : Hid _ := YES.out (fun j hj => E.out j (by omega))
      clear E
      go_wp2
      go_ret
      exact (⟨-1, rfl, by rw [RR.out]; rfl, K⟩ : IdxP w es _ _)
theorem containsF_any (ao : Option Addr) (es : List Ev) (n cap : Nat) (w : World) (hv : Evs w ao n es) (hl : n ≤ 1000) (hk : Ksl es) :
    Calls Try.prog 31 #[.slice ao n cap, .func (.func 32) #[] #[]] w fun o w' => o = .returned (.bool (es.any asB)) ∧ Kept [] w w' := by
  have hc := indexF_any ao es n cap w hv hl hk
  unfold IdxP at hc
  generalize es.any asB = A at hc ⊢
  go_enter Try.func31, Try.ntmps31
  go_wp2_with fail
  refine hc.mono ?_
  rintro o w1 ⟨r, rfl, hr, K1⟩
  have HR : Hid _ := hr
  clear hc hr
  go_wp2
  go_ret
  exact ⟨by rw [← HR.out]; rfl, K1⟩
/-- Does an event tell what the map tells? -/
def tdB (e : Ev) (m : List Pr) : Bool := smB e.fu e.ha e.go e.ks false (doH m e.op) (doG m e.op) (doK m e.op)
/-- Does the map explain these? -/
def exB (es : List Ev) : List Nat → Int → List Pr → Bool
  | [], _, _ => true
  | i :: l, la, m => if (evAt es i).at_ = la then false else if (evAt es i).dn && !(tdB (evAt es i) m) then false else exB es l (evAt es i).at_ (doM m (evAt es i).op)
def lgB (es : List Ev) : Bool := !(es.any asB) && exB es (ordOf es) 0 []
theorem drop_next {l : List Nat} {k : Nat} (h : k < l.length) : l.drop k = l.getD k 0 :: l.drop (k + 1) := by
  rw [List.drop_eq_getElem_cons h]; simp [h]
end Go.Proofs.Ytlmkcakmeldfeaa.Q
