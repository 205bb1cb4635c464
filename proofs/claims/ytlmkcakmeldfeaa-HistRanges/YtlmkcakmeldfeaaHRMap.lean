/-
  The map at a time: the document's.
-/
import Derived.Test.YtlmkcakmeldfeaaHMap
import Derived.Test.YtlmkcakmeldfeaaHROrder
namespace Go.Proofs.Ytlmkcakmeldfeaa.Q
set_option maxRecDepth 100000
open Go.RowKit
open Go.Deep
theorem rdo_at (mo : Option Addr) (ps ps' : List Pr) (mn mc : Nat) (op : OpQ) (hh : Bool) (gg : Int) (ks : List Int) (W : World) (h : MpV W mo mn mc ps) (hst : Str ps) (hl : mn ≤ 1000) (e1 : doM ps op = ps') (e2 : doH ps op = hh) (e3 : doG ps op = gg) (e4 : doK ps op = ks) :
    Calls Try.prog 30 #[.slice mo mn mc, .agg #[.int .i64 op.d, .int .u64 op.k, .int .u64 op.v, .int .i64 op.n, .int .i64 op.t]] W fun o w' => ∃ bo m cb ko kn kc, o = .returned (.tuple #[.slice bo m cb, .agg #[.bool false, .bool hh, .int .u64 gg, .slice ko kn kc]]) ∧ Hid (MpV w' bo m cb ps' ∧ kn = ks.length ∧ Sl w' ko ks) ∧ Kept [] W w' := by
  refine (rdo_any mo ps mn mc op W h hst hl).mono ?_
  rintro o w' ⟨bo, m, cb, ko, kn, kc, rfl, M, ek, S, K⟩
  rw [e1] at M
  rw [e4] at ek S
  exact ⟨bo, m, cb, ko, kn, kc, by rw [e2, e3], ⟨M, ek, S⟩, K⟩
def RMapP (w : World) (ps : List Pr) (o : Ending) (w' : World) : Prop := ∃ mo mn mc, o = .returned (.slice mo mn mc) ∧ MpV w' mo mn mc ps ∧ Kept [] w w'
theorem RMapP.mk {w w' : World} {ps : List Pr} {o : Ending} (mo : Option Addr) (mn mc : Nat) (h : o = .returned (.slice mo mn mc)) (h2 : MpV w' mo mn mc ps) (h3 : Kept [] w w') : RMapP w ps o w' := ⟨mo, mn, mc, h, h2, h3⟩
theorem take_filter {es : List Ev} {p : Nat → Bool} {k : Nat} (hk : k < (ordOf es).length) : ((ordOf es).take (k + 1)).filter p = if p ((ordOf es).getD k 0) then ((ordOf es).take k).filter p ++ [(ordOf es).getD k 0] else ((ordOf es).take k).filter p := by
  rw [take_next hk 0, List.filter_append]
  by_cases h : p ((ordOf es).getD k 0) = true
  · rw [if_pos h, List.filter_cons_of_pos h]; rfl
  · rw [if_neg h, List.filter_cons_of_neg h]; simp
theorem take_filter_lt {es : List Ev} {p : Nat → Bool} {k : Nat} : ∀ i ∈ ((ordOf es).take k).filter p, i < es.length := fun _ hi => take_lt _ (List.mem_filter.1 hi).1
set_option maxHeartbeats 4000000 in
theorem rmap_any (ao : Option Addr) (es : List Ev) (n cap : Nat) (t : Int) (w : World) (hv : Evs w ao n es) (hl : n ≤ 1000) :
    Calls Try.prog 18 #[.slice ao n cap, .int .i64 t] w fun o w' => RMapP w (mpA es t) o w' := by
  have hc := rorder_any ao es n cap _ hv.len hv.row hl
  have HV : Hid _ := hv
  clear hv
  go_enter Try.func18, Try.ntmps18
  go_wp2_with fail
  refine hc.mono ?_
  rintro o w1 ⟨ord, bo, m, c', rfl, hm, I1, S1, K1⟩
  have IE := I1.eq
  subst IE
  have HM : Hid _ := hm
  have hmb : m ≤ 1000 := by have := ord_len es; have := HV.out.len; omega
  clear hc I1 hm
  go_wp2
  go_loopw [5, 7] (fun vm i wr => ∃ (k : Nat) (mo : Option Addr) (mn mc : Nat), k ≤ m ∧ i = .int .i64 k ∧ vm = .slice mo mn mc ∧ Hid (MpV wr mo mn mc (mpF es (((ordOf es).take k).filter (leB es t)))) ∧ Hid (SlI wr bo (ordOf es)) ∧ Kept [] w wr) (fun _ i _ => m - (intOf i).toNat)
  case atStart => exact ⟨0, none, 0, 0, Nat.zero_le _, rfl, rfl, MpV.nil _, S1, K1⟩
  case round =>
    clear S1 K1
    obtain ⟨k, mo, mn, mc, hk, rfl, rfl, M, S, K⟩ := hrel
    by_cases hlt : k < m
    · have hltz : (k : Int) < (m : Int) := by omega
      obtain ⟨b2, o2, e2, _, c2⟩ := SlI.cell S.out (k := k) (by have := HM.out; omega)
      have im := getD_mem (l := ordOf es) (k := k) (by have := HM.out; omega)
      have NX : Hid _ := take_filter (es := es) (p := leB es t) (k := k) (by have := HM.out; omega)
      have LE : Hid ((((ordOf es).take k).filter (leB es t)).length ≤ 1000) := by
        have a1 := List.length_filter_le (leB es t) ((ordOf es).take k)
        rw [List.length_take] at a1
        show _ ≤ _; omega
      obtain ⟨i, hi⟩ : ∃ i, (ordOf es).getD k 0 = i := ⟨_, rfl⟩
      rw [hi] at c2 im NX
      have hin : i < n := by have := ord_lt im; have := HV.out.len; omega
      clear hi im
      obtain ⟨b1, o1, e1, lt1, r0⟩ := HV.out.at K hin
      have HLE : Hid (leB es t i = decide ((evAt es i).at_ ≤ t)) := rfl
      have MS : Hid _ := mpF_snoc es (((ordOf es).take k).filter (leB es t)) i
      obtain ⟨x, hx⟩ : ∃ x, evAt es i = x := ⟨_, rfl⟩
      rw [hx] at r0 HLE MS
      clear hx
      have HSI : Hid (∀ W', Kept [] wr W' → SlI W' bo (ordOf es)) := fun W' k' => S.out.new k'
      rw [e1, e2]
      have z1 : (i : Int) < (n : Int) := by omega
      have c7 := rg7 r0
      by_cases hat : x.at_ ≤ t
      · have D := rdo_at mo (mpF es (((ordOf es).take k).filter (leB es t))) _ mn mc x.op _ _ _ wr M.out (mpF_str HV.out.wd take_filter_lt) (by have h1 := M.out.1; have h2 := mpF_len HV.out.wd (take_filter_lt (es := es) (p := leB es t) (k := k)); have h3 := LE.out; omega) rfl rfl rfl rfl
        have NX2 : Hid (mpF es (((ordOf es).take (k + 1)).filter (leB es t)) = doM (mpF es (((ordOf es).take k).filter (leB es t))) x.op) := by
          show _ = _
          rw [NX.out, if_pos (by rw [HLE.out]; exact decide_eq_true hat)]; exact MS.out
        generalize doH (mpF es (((ordOf es).take k).filter (leB es t))) x.op = hh at D
        generalize doG (mpF es (((ordOf es).take k).filter (leB es t))) x.op = gg at D
        generalize doK (mpF es (((ordOf es).take k).filter (leB es t))) x.op = ks at D
        rw [← show _ = _ from NX2.out] at D
        have a1 := rg1 r0
        have a2 := rg2 r0
        have a3 := rg3 r0
        have a4 := rg4 r0
        have a5 := rg5 r0
        go_wp2_with fail
        refine D.mono ?_
        rintro e w5 ⟨b3, m3, c3, ko, kn, kc, rfl, Q5, K5⟩
        clear D a1 a2 a3 a4 a5 c2 c7
        go_wp2
        go_roundw
        case rel => exact ⟨k + 1, b3, m3, c3, by omega, by go_num, rfl, Q5.out.1, (by have q := HSI.out _ K5; rw [e2] at q; exact q), K.trans K5⟩
        case measure => simp [intOf]; omega
      · have NX2 : Hid (((ordOf es).take (k + 1)).filter (leB es t) = ((ordOf es).take k).filter (leB es t)) := by
          show _ = _
          rw [NX.out, if_neg (by rw [HLE.out]; simpa using hat)]
        go_wp2
        go_roundw
        case rel => exact ⟨k + 1, mo, mn, mc, by omega, by go_num, rfl, (by rw [NX2.out]; exact M), (by have q := HSI.out _ (Kept.refl _ _); rw [e2] at q; exact q), K⟩
        case measure => simp [intOf]; omega
    · have hltz : ¬ (k : Int) < (m : Int) := by omega
      have HF : Hid (mpF es (((ordOf es).take k).filter (leB es t)) = mpA es t) := by
        show _ = _
        unfold mpA; rw [List.take_of_length_le (by have := HM.out; omega)]
      go_wp2
      go_ret
      exact RMapP.mk mo mn mc rfl (by rw [← HF.out]; exact M.out) K
end Go.Proofs.Ytlmkcakmeldfeaa.Q
