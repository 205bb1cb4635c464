/-
  The map at a time: the program's, and the document's.
-/
import Derived.Test.YtlmkcakmeldfeaaHOrdE
import Derived.Test.YtlmkcakmeldfeaaHOrder2
namespace Go.Proofs.Ytlmkcakmeldfeaa.Q
set_option maxRecDepth 100000
open Go.RowKit
open Go.Deep
/-- What Do leaves, its answer under names, in a world that has kept another one. -/
theorem do_kept (mo : Option Addr) (ps ps' : List Pr) (mn mc : Nat) (op : OpQ) (hh : Bool) (gg : Int) (ks : List Int) (W : World) (h : MpV W mo mn mc ps) (hst : Str ps) (hw : Wd ps) (hl : mn ≤ 1000) (e1 : doM ps op = ps') (e2 : doH ps op = hh) (e3 : doG ps op = gg) (e4 : doK ps op = ks) :
    Hid (∀ W' : World, Kept [] W W' → Calls Try.prog 23 #[.agg #[.slice mo mn mc], .agg #[.int .i64 op.d, .int .u64 op.k, .int .u64 op.v, .int .i64 op.n, .int .i64 op.t]] W' fun o w' => ∃ bo m cb ko kn kc, o = .returned (.tuple #[.agg #[.slice bo m cb], .agg #[.bool false, .bool hh, .int .u64 gg, .slice ko kn kc]]) ∧ Hid (MpV w' bo m cb ps' ∧ kn = ks.length ∧ Sl w' ko ks) ∧ Kept [] W w') := fun W' k' => by
  refine (do_any mo ps mn mc op W' (h.new k') hst hw hl).mono ?_
  rintro o w' ⟨bo, m, cb, ko, kn, kc, rfl, M, ek, S, K⟩
  rw [e1] at M
  rw [e4] at ek S
  exact ⟨bo, m, cb, ko, kn, kc, by rw [e2, e3], ⟨M, ek, S⟩, k'.trans K⟩
def MapP (w : World) (ps : List Pr) (o : Ending) (w' : World) : Prop := ∃ mo mn mc, o = .returned (.agg #[.slice mo mn mc]) ∧ MpV w' mo mn mc ps ∧ Kept [] w w'
theorem MapP.mk {w w' : World} {ps : List Pr} {o : Ending} (mo : Option Addr) (mn mc : Nat) (h : o = .returned (.agg #[.slice mo mn mc])) (h2 : MpV w' mo mn mc ps) (h3 : Kept [] w w') : MapP w ps o w' := ⟨mo, mn, mc, h, h2, h3⟩
theorem MpV.setMap {w : World} {ao : Option Addr} {n cap : Nat} {ps : List Pr} (h : MpV w ao n cap ps) {B : Nat} {a : Option Addr} {m c : Nat} {T : TypeId} (Z : w.heap[B]? = some (.cells #[.slice a m c] T (0, 0))) (u : Value) : MpV (w.setCell ⟨B, 0, none⟩ u) ao n cap ps := ⟨h.1, SlP.setMap h.2.1 Z u, h.2.2⟩
theorem rangeAt_kept {l : List Nat} {w w' : World} {b o : Nat} {cs : List Value} (h : w.rangeAt b o cs) (k : Kept l w w') (hb : b ∉ l) : w'.rangeAt b o cs := fun j v hv => by
  have := h j v hv
  rw [World.cell?_of_block (w := w) (a := ⟨b, o + j, none⟩) (k.block b (lt_of_cell this) hb)]; exact this
theorem Evs.at {w wr : World} {ao : Option Addr} {n : Nat} {es : List Ev} (h : Evs w ao n es) (K : Kept [] w wr) {i : Nat} (hi : i < n) : ∃ b o, ao = some ⟨b, o, none⟩ ∧ b < w.heap.size ∧ wr.rangeAt b (o + i * 14) (evL (evAt es i)) := by
  obtain ⟨b, o, e, lt, r⟩ := SlV.row h.row (k := i) (by rw [← h.len]; exact hi)
  exact ⟨b, o, e, lt, rangeAt_kept r K (by simp)⟩
set_option maxHeartbeats 4000000 in
theorem hmap_any (ao : Option Addr) (es : List Ev) (n cap : Nat) (t : Int) (w : World) (hv : Evs w ao n es) (hl : n ≤ 1000) :
    Calls Try.prog 16 #[.slice ao n cap, .int .i64 t] w fun o w' => MapP w (mpA es t) o w' := by
  have K0 : Kept [] w ((w.alloc (.cells #[.slice none 0 0] 35)).alloc (.cells #[.slice none 0 0] 35)) := ((Kept.refl _ _).alloc _).alloc _
  have Z5 := blk_alloc_new (w.alloc (.cells #[.slice none 0 0] 35)) (.cells #[.slice none 0 0] 35)
  have Z4 := ((Kept.refl [] _).alloc (.cells #[.slice none 0 0] 35)).blk (blk_alloc_new w (.cells #[.slice none 0 0] 35)) (by simp)
  rw [nblk_alloc] at Z5
  have hc := order_any ao es n cap _ hv.len (hv.row.new K0) hl
  have HV : Hid _ := hv
  clear hv
  go_enter Try.func16, Try.ntmps16
  go_wp2_with fail
  refine hc.mono ?_
  rintro o w1 ⟨ord, bo, m, c', rfl, hm, I1, S1, K1⟩
  have IE := I1.eq
  subst IE
  have Z5' := K1.blk Z5 (by simp)
  have Z4' := K1.blk Z4 (by simp)
  have KT := K0.trans K1
  have HM : Hid _ := hm
  have hmb : m ≤ 1000 := by have := ord_len es; have := HV.out.len; omega
  clear hc Z5 Z4 K0 K1 I1 hm
  go_wp2
  obtain ⟨H, hH⟩ : ∃ H, H = w.heap.size := ⟨_, rfl⟩
  have HH : Hid _ := hH
  rw [← hH] at Z5' Z4' ⊢
  clear hH
  go_loopw [11] (fun i wr => ∃ (k : Nat) (mo : Option Addr) (mn mc : Nat), k ≤ m ∧ i = .int .i64 k ∧ wr.heap[H + 1]? = some (.cells #[.slice mo mn mc] 35 (0, 0)) ∧ wr.heap[H]? = some (.cells #[.slice none 0 0] 35 (0, 0)) ∧ Hid (MpV wr mo mn mc (mpF es ((ordOf es).take k))) ∧ Hid (SlI wr bo (ordOf es)) ∧ Hid (∀ j, j < k → leB es t ((ordOf es).getD j 0) = true) ∧ Kept [] w wr) (fun i _ => m - (intOf i).toNat)
  case atStart => exact ⟨0, none, 0, 0, Nat.zero_le _, rfl, Z5', Z4', MpV.nil _, S1, (fun j hj => absurd hj (by omega)), KT⟩
  case round =>
    clear Z5' Z4' S1 KT
    obtain ⟨k, mo, mn, mc, hk, rfl, Z5, Z4, M, S, E, K⟩ := hrel
    have FIN : Hid ((k = m ∨ (k < m ∧ leB es t ((ordOf es).getD k 0) = false)) → mpF es ((ordOf es).take k) = mpA es t) := fun h => by
      unfold mpA; rw [filter_at E.out (by rw [← HM.out]; exact h)]
    by_cases hlt : k < m
    · obtain ⟨b2, o2, e2, _, c2⟩ := SlI.cell S.out (k := k) (by have := HM.out; omega)
      have im := getD_mem (l := ordOf es) (k := k) (by have := HM.out; omega)
      have NX : Hid _ := mpF_take (es := es) (k := k) (by have := HM.out; omega)
      have ST : Hid (leB es t ((ordOf es).getD k 0) = true → ∀ j, j < k + 1 → leB es t ((ordOf es).getD j 0) = true) := fun h j hj => by
        by_cases q : j = k
        · rw [q]; exact h
        · exact E.out j (by omega)
      clear E
      obtain ⟨i, hi⟩ : ∃ i, (ordOf es).getD k 0 = i := ⟨_, rfl⟩
      rw [hi] at c2 im NX ST FIN
      have hin : i < n := by have := ord_lt im; have := HV.out.len; omega
      clear hi im
      obtain ⟨b1, o1, e1, lt1, r0⟩ := HV.out.at K hin
      have HW : Hid ((evAt es i).op.k ≤ 18446744073709551615) := HV.out.wd _ (evAt_mem (by have := HV.out.len; omega))
      have HLE : Hid (leB es t i = decide ((evAt es i).at_ ≤ t)) := rfl
      obtain ⟨x, hx⟩ : ∃ x, evAt es i = x := ⟨_, rfl⟩
      rw [hx] at r0 NX HLE HW
      clear hx
      rw [e1, e2]
      have z1 : (i : Int) < (n : Int) := by omega
      have c7 := rg7 r0
      by_cases hat : t < x.at_
      · have HF : Hid (mpF es ((ordOf es).take k) = mpA es t) := FIN.out (Or.inr ⟨hlt, by rw [HLE.out]; simp; omega⟩)
        have q5 := cell_of_blk Z5 (i := 0) rfl
        have q4 := cell_of_blk Z4 (i := 0) rfl
        have f4 := free_of_blk Z4
        have lt5 := lt_of_blk Z5
        go_wp2
        have Y4 := blk_set Z4 0 (.slice mo mn mc)
        have y := cell_of_blk Y4 (i := 0) rfl
        refine bodyPost_ret (v := .agg #[.slice mo mn mc]) (by simp [results, Try.results16, go_sem, y]) rfl ?_
        exact MapP.mk mo mn mc rfl (by rw [← HF.out]; exact MpV.setMap M.out Z4 _) (K.setCell (p := ⟨H, 0, none⟩) (Or.inr (by have := HH.out; simp; omega)) _)
      · have D := do_kept mo (mpF es ((ordOf es).take k)) _ mn mc x.op _ _ _ wr M.out (mpF_str HV.out.wd take_lt) (mpF_wd HV.out.wd take_lt) (by have h1 := M.out.1; have h2 := mpF_len HV.out.wd (take_lt (es := es) (k := k)); have h3 := ord_len es; have h4 := HV.out.len; rw [List.length_take] at h2; omega) rfl rfl rfl rfl
        rw [← show mpF es ((ordOf es).take (k + 1)) = _ from NX.out] at D
        generalize doH (mpF es ((ordOf es).take k)) x.op = hh at D
        generalize doG (mpF es ((ordOf es).take k)) x.op = gg at D
        generalize doK (mpF es ((ordOf es).take k)) x.op = ks at D
        have HS : Hid (∀ W' : World, Kept [H + 1] wr W' → W'.cell? ⟨b1, o1 + i * 14 + 1, none⟩ = some (.int .i64 x.op.d) ∧ W'.cell? ⟨b1, o1 + i * 14 + 2, none⟩ = some (.int .u64 x.op.k) ∧ W'.cell? ⟨b1, o1 + i * 14 + 3, none⟩ = some (.int .u64 x.op.v) ∧ W'.cell? ⟨b1, o1 + i * 14 + 4, none⟩ = some (.int .i64 x.op.n) ∧ W'.cell? ⟨b1, o1 + i * 14 + 5, none⟩ = some (.int .i64 x.op.t)) := fun W' k' => by
          have r := rangeAt_kept r0 k' (by have := HH.out; simp; omega)
          exact ⟨rg1 r, rg2 r, rg3 r, rg4 r, rg5 r⟩
        have f5 := free_of_blk Z5
        have q5 := cell_of_blk Z5 (i := 0) rfl
        have lt5 := lt_of_blk Z5
        have n5 : b1 ≠ H + 1 := by have := HH.out; omega
        have HSI : Hid (∀ W', Kept [] wr W' → SlI W' bo (ordOf es)) := fun W' k' => S.out.new k'
        go_upto_region 6 with (fail)
        clear c7 c2
        obtain ⟨a1, a2, a3, a4, a5⟩ := HS.out wr (Kept.refl _ _)
        go_region_with ((first
            | (go_at_call 23; refine (D.out _ (by first | assumption | exact (Kept.refl _ _).drew)).mono ?_; rintro e w5 ⟨b3, m3, c3, ko, kn, kc, rfl, Q5, K5⟩; have s0 := cell_of_blk (K5.blk Z5 (by simp)) (i := 0) rfl; have g0 := free_of_blk (K5.blk Z5 (by simp)))))
        all_goals
          go_wp2
          refine ⟨⟨k + 1, b3, m3, c3, by omega, by go_num, blk_set (K5.blk Z5 (by simp)) 0 _, by rw [blk_setCell_other _ _ _ _ (by simp)]; exact K5.blk Z4 (by simp), MpV.setMap Q5.out.1 (K5.blk Z5 (by simp)) _, (by have q := SlI.setMap (HSI.out _ K5) (K5.blk Z5 (by simp)) (.slice b3 m3 c3); rw [e2] at q; exact q), ST.out (by rw [HLE.out]; simp; omega), (K.trans K5).setCell (p := ⟨H + 1, 0, none⟩) (Or.inr (by have := HH.out; simp; omega)) _⟩, by simp [intOf]; omega⟩
    · have HF : Hid (mpF es ((ordOf es).take k) = mpA es t) := FIN.out (Or.inl (by omega))
      have q5 := cell_of_blk Z5 (i := 0) rfl
      have q4 := cell_of_blk Z4 (i := 0) rfl
      have f4 := free_of_blk Z4
      have lt5 := lt_of_blk Z5
      go_wp2
      have Y4 := blk_set Z4 0 (.slice mo mn mc)
      have y := cell_of_blk Y4 (i := 0) rfl
      refine bodyPost_ret (v := .agg #[.slice mo mn mc]) (by simp [results, Try.results16, go_sem, y]) rfl ?_
      exact MapP.mk mo mn mc rfl (by rw [← HF.out]; exact MpV.setMap M.out Z4 _) (K.setCell (p := ⟨H, 0, none⟩) (Or.inr (by have := HH.out; simp; omega)) _)
end Go.Proofs.Ytlmkcakmeldfeaa.Q
