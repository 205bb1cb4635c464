/-
  Rows of events: turned into the program's; are they few? The map behind some of them.
-/
import Derived.Test.YtlmkcakmeldfeaaQLaws
import Derived.Test.YtlmkcakmeldfeaaHOrdP
namespace Go.Proofs.Ytlmkcakmeldfeaa.Q
set_option maxRecDepth 100000
open Go.RowKit
open Go.Deep
/-- Events in a slice, with their keys. -/
structure Evs (w : World) (ao : Option Addr) (n : Nat) (es : List Ev) : Prop where
  len : n = es.length
  row : SlV w ao es
  keys : ∀ e ∈ es, Sl w e.ka e.ks
  wd : ∀ e ∈ es, e.op.k ≤ 18446744073709551615
theorem Evs.new {w w' : World} {ao : Option Addr} {n : Nat} {es : List Ev} (h : Evs w ao n es) (k : Kept [] w w') : Evs w' ao n es := ⟨h.len, h.row.new k, fun e he => (h.keys e he).new k, h.wd⟩
theorem evAt_mem {es : List Ev} {i : Nat} (h : i < es.length) : evAt es i ∈ es := by unfold evAt; simp [h]
theorem Evs.key {w : World} {ao : Option Addr} {n : Nat} {es : List Ev} (h : Evs w ao n es) {i : Nat} (hi : i < n) : Sl w (evAt es i).ka (evAt es i).ks := h.keys _ (evAt_mem (by rw [← h.len]; exact hi))
/-- The map behind these. -/
def mpF (es : List Ev) (l : List Nat) : List Pr := l.foldl (fun m i => doM m (evAt es i).op) []
theorem mpF_snoc (es : List Ev) (l : List Nat) (i : Nat) : mpF es (l ++ [i]) = doM (mpF es l) (evAt es i).op := by simp [mpF]
theorem foldM_ok {es : List Ev} (hw : ∀ e ∈ es, e.op.k ≤ 18446744073709551615) : ∀ (l : List Nat) (m : List Pr), (∀ i ∈ l, i < es.length) → Str m → Wd m → Str (l.foldl (fun m i => doM m (evAt es i).op) m) ∧ Wd (l.foldl (fun m i => doM m (evAt es i).op) m) ∧ (l.foldl (fun m i => doM m (evAt es i).op) m).length ≤ m.length + l.length
  | [], m, _, h1, h2 => ⟨h1, h2, by simp⟩
  | i :: l, m, hl, h1, h2 => by
    obtain ⟨a, b, c⟩ := foldM_ok hw l (doM m (evAt es i).op) (fun j hj => hl j (List.mem_cons_of_mem _ hj)) (doM_str h1 _) (doM_wd h2 (hw _ (evAt_mem (hl i (by simp)))))
    refine ⟨a, b, ?_⟩
    have := doM_len m (evAt es i).op
    rw [List.foldl_cons, List.length_cons]; omega
theorem mpF_str {es : List Ev} (hw : ∀ e ∈ es, e.op.k ≤ 18446744073709551615) {l : List Nat} (hl : ∀ i ∈ l, i < es.length) : Str (mpF es l) := (foldM_ok hw l [] hl List.Pairwise.nil (by intro x hx; cases hx)).1
theorem mpF_wd {es : List Ev} (hw : ∀ e ∈ es, e.op.k ≤ 18446744073709551615) {l : List Nat} (hl : ∀ i ∈ l, i < es.length) : Wd (mpF es l) := (foldM_ok hw l [] hl List.Pairwise.nil (by intro x hx; cases hx)).2.1
theorem mpF_len {es : List Ev} (hw : ∀ e ∈ es, e.op.k ≤ 18446744073709551615) {l : List Nat} (hl : ∀ i ∈ l, i < es.length) : (mpF es l).length ≤ l.length := by
  have := (foldM_ok hw l [] hl List.Pairwise.nil (by intro x hx; cases hx)).2.2; simpa [mpF] using this
theorem str_nil : Str [] := List.Pairwise.nil
theorem SlI.setMap {w : World} {ao : Option Addr} {xs : List Nat} (h : SlI w ao xs) {B : Nat} {a : Option Addr} {n c : Nat} {T : TypeId} (Z : w.heap[B]? = some (.cells #[.slice a n c] T (0, 0))) (u : Value) : SlI (w.setCell ⟨B, 0, none⟩ u) ao xs := by
  intro h0
  obtain ⟨b, off, rfl, hb, hc⟩ := h h0
  have hne : b ≠ B := by
    rintro rfl
    have := hc 0 h0 0 _ rfl
    simp [World.cell?, Z] at this
    cases e : off with
    | zero => rw [e] at this; simp at this
    | succ o => rw [e] at this; simp at this
  refine ⟨b, off, rfl, by rw [nblk_setCell]; exact hb, fun i hi j v hv => ?_⟩
  rw [World.cell?_of_block (w := w) (a := ⟨b, off + i * 1 + j, none⟩) (blk_setCell_other _ _ _ _ (fun e => hne e))]
  exact hc i hi j v hv
/-- Are they few? -/
def fwB (es : List Ev) : Bool := es.all (fun e => decide (es.length ≤ 40) && decide (e.ks.length ≤ 40))
set_option maxHeartbeats 2000000 in
theorem few8_any (ao : Option Addr) (es : List Ev) (n cap : Nat) (w : World) (hn : n = es.length) (hs : SlV w ao es) :
    Calls Try.prog 9 #[.slice ao n cap] w fun o w' => o = .returned (.bool (fwB es)) ∧ Kept [] w w' := by
  have HN : Hid _ := hn
  have HS : Hid _ := hs
  have OUT : Hid (∀ k, k < n → ¬ (n ≤ 40 ∧ (evAt es k).ks.length ≤ 40) → fwB es = false) := fun k hk h => by
    unfold fwB
    refine List.all_eq_false.2 ⟨evAt es k, evAt_mem (by omega), ?_⟩
    simp only [Bool.and_eq_true, decide_eq_true_eq]
    rw [← hn]; exact h
  have YES : Hid ((∀ k, k < n → n ≤ 40 ∧ (evAt es k).ks.length ≤ 40) → fwB es = true) := fun h => by
    unfold fwB
    refine List.all_eq_true.2 (fun x hx => ?_)
    obtain ⟨i, hi, e⟩ := List.mem_iff_getElem.1 hx
    have := h i (by omega)
    rw [show evAt es i = x by unfold evAt; rw [← e]; simp [hi]] at this
    simp only [Bool.and_eq_true, decide_eq_true_eq]
    rw [← hn]; exact this
  clear hn hs
  generalize fwB es = R at OUT YES ⊢
  go_enter Try.func9, Try.ntmps9
  go_wp2
  go_loopw [7] (fun i wr => ∃ k : Nat, k ≤ n ∧ i = .int .i64 k ∧ Hid (∀ j, j < k → n ≤ 40 ∧ (evAt es j).ks.length ≤ 40) ∧ Kept [] w wr) (fun i _ => n - (intOf i).toNat)
  case atStart => exact ⟨0, Nat.zero_le _, rfl, (fun j hj => absurd hj (by omega)), Kept.refl _ _⟩
  case round =>
    obtain ⟨k, hk, rfl, E, K⟩ := hrel
    by_cases hlt : k < n
    · obtain ⟨b1, o1, e1, _, r0⟩ := SlV.row (SlOf.new HS.out K) (k := k) (by have := HN.out; omega)
      rw [e1]
      have OU := OUT.out k hlt
      have ST : Hid (n ≤ 40 ∧ (evAt es k).ks.length ≤ 40 → ∀ j, j < k + 1 → n ≤ 40 ∧ (evAt es j).ks.length ≤ 40) := fun h j hj => by
        by_cases q : j = k
        · rw [q]; exact h
        · exact E.out j (by omega)
      have HO : Hid _ := OU
      clear OU E
      generalize hx : evAt es k = x at HO ST
      rw [show es.getD k evZ = x from hx] at r0
      clear hx
      have Z := EB.new 48 wr x
      have c13 := Z.c13
      clear Z
      by_cases q1 : n ≤ 40
      · have q1z : ¬ (40 : Int) < (n : Int) := by omega
        by_cases q2 : x.ks.length ≤ 40
        · have q2z : ¬ (40 : Int) < (x.ks.length : Int) := by omega
          go_wp2_with (first
            | ((with_reducible change wpList _ _ _ (Oper.mk _ (Op.load 48 _) _ _ _ _ :: _) _ _); refine wpList_load_g 48 isEv_ref rfl (.tmp 9) rfl b1 (o1 + k * 14) rfl x r0 ?_)
            | ((with_reducible change wpList _ _ _ (Oper.mk _ (Op.store 48 _ _) _ _ _ _ :: _) _ _); refine wpList_store_ev 48 isEv_ref rfl (.tmp 4) (.tmp 10) rfl _ rfl rfl x rfl ?_))
          go_roundw
          case rel => exact ⟨k + 1, by omega, by go_num, ST.out ⟨q1, q2⟩, K.alloc _⟩
          case measure => simp [intOf]; omega
        · have q2z : (40 : Int) < (x.ks.length : Int) := by omega
          have RR : R = false := HO.out (fun h => q2 h.2)
          have HR : Hid _ := RR
          clear RR
          go_wp2_with (first
            | ((with_reducible change wpList _ _ _ (Oper.mk _ (Op.load 48 _) _ _ _ _ :: _) _ _); refine wpList_load_g 48 isEv_ref rfl (.tmp 9) rfl b1 (o1 + k * 14) rfl x r0 ?_)
            | ((with_reducible change wpList _ _ _ (Oper.mk _ (Op.store 48 _ _) _ _ _ _ :: _) _ _); refine wpList_store_ev 48 isEv_ref rfl (.tmp 4) (.tmp 10) rfl _ rfl rfl x rfl ?_))
          go_ret
          exact ⟨by rw [HR.out]; rfl, K.alloc _⟩
      · have q1z : (40 : Int) < (n : Int) := by omega
        have RR : R = false := HO.out (fun h => q1 h.1)
        have HR : Hid _ := RR
        clear RR
        go_wp2_with (first
          | ((with_reducible change wpList _ _ _ (Oper.mk _ (Op.load 48 _) _ _ _ _ :: _) _ _); refine wpList_load_g 48 isEv_ref rfl (.tmp 9) rfl b1 (o1 + k * 14) rfl x r0 ?_)
          | ((with_reducible change wpList _ _ _ (Oper.mk _ (Op.store 48 _ _) _ _ _ _ :: _) _ _); refine wpList_store_ev 48 isEv_ref rfl (.tmp 4) (.tmp 10) rfl _ rfl rfl x rfl ?_))
        go_ret
        exact ⟨by rw [HR.out]; rfl, K.alloc _⟩
    · have RR : R = true := YES.out (fun j hj => E.out j (by omega))
      have HR : Hid _ := RR
      clear RR E
      go_wp2
      go_ret
      exact ⟨by rw [HR.out]; rfl, K⟩
/-- A literal of one event. -/
theorem build_ev (x : Ev) : Array.foldl (fun cs (x : Value × Nat) => cs.setIfInBounds x.snd x.fst) #[.int .i64 0, .int .i64 0, .int .u64 0, .int .u64 0, .int .i64 0, .int .i64 0, .int .i64 0, .int .i64 0, .int .i64 0, .bool false, .bool false, .bool false, .int .u64 0, .slice none 0 0] (evA x).zipIdx 0 14 = evA x := by
  simp [evA, evL, Array.zipIdx]
set_option maxHeartbeats 2000000 in
theorem news8_any (ao : Option Addr) (es : List Ev) (n cap : Nat) (w : World) (hv : Evs w ao n es) (hl : n ≤ 1000) :
    Calls Try.prog 12 #[.slice ao n cap] w fun o w' => ∃ bo c', o = .returned (.slice bo n c') ∧ Evs w' bo n es ∧ Kept [] w w' := by
  have HV : Hid _ := hv
  clear hv
  go_enter Try.func12, Try.ntmps12
  go_wp2
  go_loopw [3, 8] (fun o i wr => ∃ k : Nat, k ≤ n ∧ i = .int .i64 k ∧ OwnV 14 evL wr w.heap.size 53 o (es.take k) ∧ Kept [] w wr) (fun _ i _ => n - (intOf i).toNat)
  case atStart => exact ⟨0, Nat.zero_le _, rfl, OwnV.nil _ _ _, Kept.refl _ _⟩
  case round =>
    obtain ⟨k, hk, rfl, O, K⟩ := hrel
    by_cases hlt : k < n
    · have hkx : k < es.length := by have := HV.out.len; omega
      obtain ⟨b1, o1, e1, _, r0⟩ := SlV.row (HV.out.row.new K) hkx
      have ht := take_next hkx evZ
      generalize es.getD k evZ = x at r0 ht
      have sz : (evA x).size = 14 := evA_size x
      have bz := build_ev x
      have K1 : Kept [] wr (wr.alloc (.cells (evA x) 48)) := (Kept.refl _ _).alloc _
      obtain ⟨g, cp, w1, hap, O1, _, K2⟩ := append_hev 27 _ w.heap.size (wr.heap.size + 1) _ (es.take k) x (nblk_alloc _ _) (O.new K1) (by have := K.size; have := K1.size; omega) (by rw [List.length_take]; omega)
      rw [← ht] at O1
      have T1 := Kept.ofOwnV (K.trans K1) (O.new K1) (Nat.le_refl _) K2
      have hlen : (es.take k).length + 1 = k + 1 := by rw [List.length_take]; omega
      rw [hlen] at hap O1
      rw [e1]
      have HO : Hid _ := And.intro O1 T1
      clear O1 T1 K2 O K K1 ht hlen
      go_wp2_with (first
        | ((with_reducible change wpList _ _ _ (Oper.mk _ (Op.load 48 (Operand.tmp 10)) _ _ _ _ :: _) _ _); refine wpList_load_g 48 isEv_ref rfl (.tmp 10) rfl b1 (o1 + k * 14) rfl x r0 ?_)
        | ((with_reducible change wpList _ _ _ (Oper.mk _ (Op.store 48 _ _) _ _ _ _ :: _) _ _); refine wpList_store_ev 48 isEv_ref rfl (.tmp 5) (.tmp 11) rfl _ rfl rfl x rfl ?_)
        | ((with_reducible change wpList _ _ _ (Oper.mk _ (Op.load 48 (Operand.tmp 5)) _ _ _ _ :: _) _ _); refine wpList_load_g 48 isEv_ref rfl (.tmp 5) rfl wr.heap.size 0 rfl x (EB.new 48 wr x).range ?_)
        | (at_builtin; refine wpList_append_run rfl (.tmp 12) (.tmp 14) 27 rfl rfl rfl hap ?_))
      clear hap
      go_roundw
      case rel => exact ⟨k + 1, by omega, by go_num, HO.out.1, HO.out.2⟩
      case measure => simp [intOf]; omega
    · have e2 : es.take k = es := List.take_of_length_le (by have := HV.out.len; omega)
      rw [e2] at O
      obtain ⟨bo, c', rfl, S, hle, hc, _⟩ := O.shape evL_len
      rw [← HV.out.len] at hle ⊢
      have HR : Hid _ := And.intro (Evs.mk HV.out.len S (fun e he => (HV.out.keys e he).new K) HV.out.wd) K
      clear S O hle hc
      go_wp2
      go_ret
      exact ⟨bo, c', rfl, HR.out⟩
end Go.Proofs.Ytlmkcakmeldfeaa.Q
